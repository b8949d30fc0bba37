/- The reference's build in the seat YtlimcimioeepaaaGreatDoor: a task of its numbers (printed by codec/mk_build.py). No statement is proved here. -/
import Derived.Test.YtlimcimioeepaaaGreatDoorZG12
set_option linter.unusedVariables false
namespace Go.Proofs.YtlimcimioeepaaaGreatDoor
open Go.RowKit

def BPhi3 (t : TypeId) (g F base lb lo n c m k : Nat) (v : Value) (x0 x1 x2 : Int) (xs : List Value) : Nat → Value → World → Prop
  | 0, u, w => u = .pointer (some ⟨g, F, none⟩)
  | 1, u, w => u = v
  | 2, u, w => u = .slice (some ⟨lb, lo, none⟩) n c
  | 3, u, w => u = .int .i64 (m : Int)
  | 4, u, w => u = .pointer (some ⟨lb, lo + m, none⟩)
  | 5, u, w => u = .int .i64 x0
  | 6, u, w => u = .slice (some ⟨lb, lo, none⟩) n c
  | 7, u, w => u = .int .i64 (m : Int)
  | 8, u, w => u = .int .i64 ((m + 1 : Nat) : Int)
  | 9, u, w => u = .pointer (some ⟨lb, lo + (m + 1), none⟩)
  | 10, u, w => u = .int .i64 x1
  | 11, u, w => u = .slice (some ⟨lb, lo, none⟩) n c
  | 12, u, w => u = .int .i64 (m : Int)
  | 13, u, w => u = .int .i64 ((m + 2 : Nat) : Int)
  | 14, u, w => u = .pointer (some ⟨lb, lo + (m + 2), none⟩)
  | 15, u, w => u = .int .i64 x2
  | 16, u, w => u = .agg #[.int .i64 x0, .int .i64 x1, .int .i64 x2]
  | 17, u, w => OwnX t v.ownBlock [.int .i64 x0, .int .i64 x1, .int .i64 x2] u w
  | 18, u, w => Grew t base 3 (k + 1) (xs ++ [.int .i64 x0, .int .i64 x1, .int .i64 x2]) u w
  | 19, u, w => u = .pointer (some ⟨g, F, none⟩)
  | _, _, _ => True
theorem bphi3_rx {t : TypeId} {g F base lb lo n c m k : Nat} {v : Value} {x0 x1 x2 : Int} {xs : List Value} {b : Nat} : ∀ (j : Nat) (u : Value) (w w' : World), j ≠ 18 → BPhi3 t g F base lb lo n c m k v x0 x1 x2 xs j u w → RX t b v.ownBlock w w' → BPhi3 t g F base lb lo n c m k v x0 x1 x2 xs j u w'
  | 0, _, _, _, _, h, _ | 1, _, _, _, _, h, _ | 2, _, _, _, _, h, _ | 3, _, _, _, _, h, _ | 4, _, _, _, _, h, _ | 5, _, _, _, _, h, _ | 6, _, _, _, _, h, _ | 7, _, _, _, _, h, _ | 8, _, _, _, _, h, _ | 9, _, _, _, _, h, _ | 10, _, _, _, _, h, _ | 11, _, _, _, _, h, _ | 12, _, _, _, _, h, _ | 13, _, _, _, _, h, _ | 14, _, _, _, _, h, _ | 15, _, _, _, _, h, _ | 16, _, _, _, _, h, _ | 19, _, _, _, _, h, _ => h
  | 17, _, _, _, _, h, hr => OwnX.rx h hr
  | 18, _, _, _, hne, _, _ => absurd rfl hne
  | _ + 20, _, _, _, _, _, _ => trivial
def BPhi2 (t : TypeId) (g F base lb lo n c m k : Nat) (v : Value) (x0 x1 : Int) (xs : List Value) : Nat → Value → World → Prop
  | 0, u, w => u = .pointer (some ⟨g, F, none⟩)
  | 1, u, w => u = v
  | 2, u, w => u = .slice (some ⟨lb, lo, none⟩) n c
  | 3, u, w => u = .int .i64 (m : Int)
  | 4, u, w => u = .pointer (some ⟨lb, lo + m, none⟩)
  | 5, u, w => u = .int .i64 x0
  | 6, u, w => u = .slice (some ⟨lb, lo, none⟩) n c
  | 7, u, w => u = .int .i64 (m : Int)
  | 8, u, w => u = .int .i64 ((m + 1 : Nat) : Int)
  | 9, u, w => u = .pointer (some ⟨lb, lo + (m + 1), none⟩)
  | 10, u, w => u = .int .i64 x1
  | 11, u, w => u = .agg #[.int .i64 x0, .int .i64 x1]
  | 12, u, w => OwnX t v.ownBlock [.int .i64 x0, .int .i64 x1] u w
  | 13, u, w => Grew t base 2 (k + 1) (xs ++ [.int .i64 x0, .int .i64 x1]) u w
  | 14, u, w => u = .pointer (some ⟨g, F, none⟩)
  | _, _, _ => True
theorem bphi2_rx {t : TypeId} {g F base lb lo n c m k : Nat} {v : Value} {x0 x1 : Int} {xs : List Value} {b : Nat} : ∀ (j : Nat) (u : Value) (w w' : World), j ≠ 13 → BPhi2 t g F base lb lo n c m k v x0 x1 xs j u w → RX t b v.ownBlock w w' → BPhi2 t g F base lb lo n c m k v x0 x1 xs j u w'
  | 0, _, _, _, _, h, _ | 1, _, _, _, _, h, _ | 2, _, _, _, _, h, _ | 3, _, _, _, _, h, _ | 4, _, _, _, _, h, _ | 5, _, _, _, _, h, _ | 6, _, _, _, _, h, _ | 7, _, _, _, _, h, _ | 8, _, _, _, _, h, _ | 9, _, _, _, _, h, _ | 10, _, _, _, _, h, _ | 11, _, _, _, _, h, _ | 14, _, _, _, _, h, _ => h
  | 12, _, _, _, _, h, hr => OwnX.rx h hr
  | 13, _, _, _, hne, _, _ => absurd rfl hne
  | _ + 15, _, _, _, _, _, _ => trivial
def BPhiB (t : TypeId) (g F base lb lo n c m k d e : Nat) (v : Value) (xs : List Value) : Nat → Value → World → Prop
  | 0, u, w => u = .pointer (some ⟨g, F, none⟩)
  | 1, u, w => u = v
  | 2, u, w => u = .slice (some ⟨lb, lo, none⟩) n c
  | 3, u, w => u = .int .i64 (m : Int)
  | 4, u, w => u = .int .i64 (m : Int)
  | 5, u, w => u = .int .i64 (d : Int)
  | 6, u, w => u = .int .i64 ((m + d : Nat) : Int)
  | 7, u, w => u = .slice (some ⟨lb, if c = m then lo else lo + m, none⟩) d (c - m)
  | 8, u, w => u = .slice (some ⟨lb, lo, none⟩) n c
  | 9, u, w => u = .int .i64 (m : Int)
  | 10, u, w => u = .int .i64 (d : Int)
  | 11, u, w => u = .int .i64 ((m + d : Nat) : Int)
  | 12, u, w => u = .int .i64 (m : Int)
  | 13, u, w => u = .int .i64 (d : Int)
  | 14, u, w => u = .int .i64 ((m + d : Nat) : Int)
  | 15, u, w => u = .int .i64 (e : Int)
  | 16, u, w => u = .int .i64 ((m + d + e : Nat) : Int)
  | 17, u, w => u = .slice (some ⟨lb, if c = m + d then lo else lo + (m + d), none⟩) e (c - (m + d))
  | 18, u, w => u = .agg #[.slice (some ⟨lb, if c = m then lo else lo + m, none⟩) d (c - m), .slice (some ⟨lb, if c = m + d then lo else lo + (m + d), none⟩) e (c - (m + d))]
  | 19, u, w => OwnX t v.ownBlock [.slice (some ⟨lb, if c = m then lo else lo + m, none⟩) d (c - m), .slice (some ⟨lb, if c = m + d then lo else lo + (m + d), none⟩) e (c - (m + d))] u w
  | 20, u, w => Grew t base 2 (k + 1) (xs ++ [.slice (some ⟨lb, if c = m then lo else lo + m, none⟩) d (c - m), .slice (some ⟨lb, if c = m + d then lo else lo + (m + d), none⟩) e (c - (m + d))]) u w
  | 21, u, w => u = .pointer (some ⟨g, F, none⟩)
  | _, _, _ => True
theorem bphib_rx {t : TypeId} {g F base lb lo n c m k d e : Nat} {v : Value} {xs : List Value} {b : Nat} : ∀ (j : Nat) (u : Value) (w w' : World), j ≠ 20 → BPhiB t g F base lb lo n c m k d e v xs j u w → RX t b v.ownBlock w w' → BPhiB t g F base lb lo n c m k d e v xs j u w'
  | 0, _, _, _, _, h, _ | 1, _, _, _, _, h, _ | 2, _, _, _, _, h, _ | 3, _, _, _, _, h, _ | 4, _, _, _, _, h, _ | 5, _, _, _, _, h, _ | 6, _, _, _, _, h, _ | 7, _, _, _, _, h, _ | 8, _, _, _, _, h, _ | 9, _, _, _, _, h, _ | 10, _, _, _, _, h, _ | 11, _, _, _, _, h, _ | 12, _, _, _, _, h, _ | 13, _, _, _, _, h, _ | 14, _, _, _, _, h, _ | 15, _, _, _, _, h, _ | 16, _, _, _, _, h, _ | 17, _, _, _, _, h, _ | 18, _, _, _, _, h, _ | 21, _, _, _, _, h, _ => h
  | 19, _, _, _, _, h, hr => OwnX.rx h hr
  | 20, _, _, _, hne, _, _ => absurd rfl hne
  | _ + 22, _, _, _, _, _, _ => trivial
set_option maxHeartbeats 1000000 in
theorem bld_store0 {o : Oper} {a : Act} {x : World} {base g n : Nat} {p q : Int} {v1 v2 v3 v4 : Value} {ps : List (Int × Int × Int)} {es : List (Int × Int)} {fs : List (Int × Int × Int)} {cs : List (Value × Value)} {xs : List Value} {K : Act → World → Prop} {Q : Exit → Act → World → Prop} (s y : Operand) (hop : o.op = .store 22 s y) (hdst : o.dst = none)
    (hO : Bld 0 base g p q v1 v2 v3 v4 ps es fs cs x) (f1 : Grew 52 base 3 n xs (a.eval y) x) (f2 : a.eval s = .pointer (some ⟨g, 2, none⟩)) (new : List (Int × Int × Int)) (hn : new.length = n) (hx : flatT new = xs)
    (hK : ∀ A' c' x', Bld 4 base g p q (.slice A' n c') v2 v3 v4 new es fs cs x' → Below base x x' → K a x') : o.wp Tryz.prog a x K Q := by
  obtain ⟨A, c, e, ho⟩ := f1
  have hg := hO.row
  have d := cell_of_row x g 2 _ _ _ hg
  have z := frozen_of_row x g 2 _ _ hg
  simp at d
  obtain ⟨x', hx'⟩ : ∃ x', x' = x.setCell ⟨g, 2, none⟩ (.slice A n c) := ⟨_, rfl⟩
  have hr : (execOp a.eval o).run Tryz.prog x = .ok .skip x' := by
    rw [hx']
    simp only [execOp, hop]
    rw [e, f2]
    simp [go_sem, d, z]
  have h6 := heap_setCell_same x g 2 _ _ (.slice A n c) hg
  rw [← hx'] at h6
  have hf : ∀ k, k ≠ g → x'.heap[k]? = x.heap[k]? := fun k hk => by rw [hx', heap_setCell_other _ _ _ _ hk]
  have hb : Below base x x' := by rw [hx']; exact (Below.refl base x).setCell hO.le _
  unfold Oper.wp
  rw [hr, Oper.upon_skip, hdst]
  refine hK A c x' ⟨h6, hO.le, ?_, ?_, ?_, ?_⟩ hb
  · intro _
    unfold OwnT
    rw [hn, hx]
    exact other_own ho hg (by decide) hf
  · exact fun _ => other_own (hO.edges (by decide)) hg (by decide) hf
  · exact fun _ => other_own (hO.futs (by decide)) hg (by decide) hf
  · exact fun _ => other_own (hO.bars (by decide)) hg (by decide) hf
set_option maxHeartbeats 1000000 in
theorem bld_store1 {o : Oper} {a : Act} {x : World} {base g n : Nat} {p q : Int} {v1 v2 v3 v4 : Value} {ps : List (Int × Int × Int)} {es : List (Int × Int)} {fs : List (Int × Int × Int)} {cs : List (Value × Value)} {xs : List Value} {K : Act → World → Prop} {Q : Exit → Act → World → Prop} (s y : Operand) (hop : o.op = .store 23 s y) (hdst : o.dst = none)
    (hO : Bld 1 base g p q v1 v2 v3 v4 ps es fs cs x) (f1 : Grew 56 base 2 n xs (a.eval y) x) (f2 : a.eval s = .pointer (some ⟨g, 3, none⟩)) (new : List (Int × Int)) (hn : new.length = n) (hx : flatE new = xs)
    (hK : ∀ A' c' x', Bld 4 base g p q v1 (.slice A' n c') v3 v4 ps new fs cs x' → Below base x x' → K a x') : o.wp Tryz.prog a x K Q := by
  obtain ⟨A, c, e, ho⟩ := f1
  have hg := hO.row
  have d := cell_of_row x g 3 _ _ _ hg
  have z := frozen_of_row x g 3 _ _ hg
  simp at d
  obtain ⟨x', hx'⟩ : ∃ x', x' = x.setCell ⟨g, 3, none⟩ (.slice A n c) := ⟨_, rfl⟩
  have hr : (execOp a.eval o).run Tryz.prog x = .ok .skip x' := by
    rw [hx']
    simp only [execOp, hop]
    rw [e, f2]
    simp [go_sem, d, z]
  have h6 := heap_setCell_same x g 3 _ _ (.slice A n c) hg
  rw [← hx'] at h6
  have hf : ∀ k, k ≠ g → x'.heap[k]? = x.heap[k]? := fun k hk => by rw [hx', heap_setCell_other _ _ _ _ hk]
  have hb : Below base x x' := by rw [hx']; exact (Below.refl base x).setCell hO.le _
  unfold Oper.wp
  rw [hr, Oper.upon_skip, hdst]
  refine hK A c x' ⟨h6, hO.le, ?_, ?_, ?_, ?_⟩ hb
  · exact fun _ => other_own (hO.parts (by decide)) hg (by decide) hf
  · intro _
    unfold OwnE
    rw [hn, hx]
    exact other_own ho hg (by decide) hf
  · exact fun _ => other_own (hO.futs (by decide)) hg (by decide) hf
  · exact fun _ => other_own (hO.bars (by decide)) hg (by decide) hf
set_option maxHeartbeats 1000000 in
theorem bld_store2 {o : Oper} {a : Act} {x : World} {base g n : Nat} {p q : Int} {v1 v2 v3 v4 : Value} {ps : List (Int × Int × Int)} {es : List (Int × Int)} {fs : List (Int × Int × Int)} {cs : List (Value × Value)} {xs : List Value} {K : Act → World → Prop} {Q : Exit → Act → World → Prop} (s y : Operand) (hop : o.op = .store 24 s y) (hdst : o.dst = none)
    (hO : Bld 2 base g p q v1 v2 v3 v4 ps es fs cs x) (f1 : Grew 58 base 3 n xs (a.eval y) x) (f2 : a.eval s = .pointer (some ⟨g, 4, none⟩)) (new : List (Int × Int × Int)) (hn : new.length = n) (hx : flatT new = xs)
    (hK : ∀ A' c' x', Bld 4 base g p q v1 v2 (.slice A' n c') v4 ps es new cs x' → Below base x x' → K a x') : o.wp Tryz.prog a x K Q := by
  obtain ⟨A, c, e, ho⟩ := f1
  have hg := hO.row
  have d := cell_of_row x g 4 _ _ _ hg
  have z := frozen_of_row x g 4 _ _ hg
  simp at d
  obtain ⟨x', hx'⟩ : ∃ x', x' = x.setCell ⟨g, 4, none⟩ (.slice A n c) := ⟨_, rfl⟩
  have hr : (execOp a.eval o).run Tryz.prog x = .ok .skip x' := by
    rw [hx']
    simp only [execOp, hop]
    rw [e, f2]
    simp [go_sem, d, z]
  have h6 := heap_setCell_same x g 4 _ _ (.slice A n c) hg
  rw [← hx'] at h6
  have hf : ∀ k, k ≠ g → x'.heap[k]? = x.heap[k]? := fun k hk => by rw [hx', heap_setCell_other _ _ _ _ hk]
  have hb : Below base x x' := by rw [hx']; exact (Below.refl base x).setCell hO.le _
  unfold Oper.wp
  rw [hr, Oper.upon_skip, hdst]
  refine hK A c x' ⟨h6, hO.le, ?_, ?_, ?_, ?_⟩ hb
  · exact fun _ => other_own (hO.parts (by decide)) hg (by decide) hf
  · exact fun _ => other_own (hO.edges (by decide)) hg (by decide) hf
  · intro _
    unfold OwnT
    rw [hn, hx]
    exact other_own ho hg (by decide) hf
  · exact fun _ => other_own (hO.bars (by decide)) hg (by decide) hf
set_option maxHeartbeats 1000000 in
theorem bld_store3 {o : Oper} {a : Act} {x : World} {base g n : Nat} {p q : Int} {v1 v2 v3 v4 : Value} {ps : List (Int × Int × Int)} {es : List (Int × Int)} {fs : List (Int × Int × Int)} {cs : List (Value × Value)} {xs : List Value} {K : Act → World → Prop} {Q : Exit → Act → World → Prop} (s y : Operand) (hop : o.op = .store 25 s y) (hdst : o.dst = none)
    (hO : Bld 3 base g p q v1 v2 v3 v4 ps es fs cs x) (f1 : Grew 49 base 2 n xs (a.eval y) x) (f2 : a.eval s = .pointer (some ⟨g, 5, none⟩)) (new : List (Value × Value)) (hn : new.length = n) (hx : flatC new = xs)
    (hK : ∀ A' c' x', Bld 4 base g p q v1 v2 v3 (.slice A' n c') ps es fs new x' → Below base x x' → K a x') : o.wp Tryz.prog a x K Q := by
  obtain ⟨A, c, e, ho⟩ := f1
  have hg := hO.row
  have d := cell_of_row x g 5 _ _ _ hg
  have z := frozen_of_row x g 5 _ _ hg
  simp at d
  obtain ⟨x', hx'⟩ : ∃ x', x' = x.setCell ⟨g, 5, none⟩ (.slice A n c) := ⟨_, rfl⟩
  have hr : (execOp a.eval o).run Tryz.prog x = .ok .skip x' := by
    rw [hx']
    simp only [execOp, hop]
    rw [e, f2]
    simp [go_sem, d, z]
  have h6 := heap_setCell_same x g 5 _ _ (.slice A n c) hg
  rw [← hx'] at h6
  have hf : ∀ k, k ≠ g → x'.heap[k]? = x.heap[k]? := fun k hk => by rw [hx', heap_setCell_other _ _ _ _ hk]
  have hb : Below base x x' := by rw [hx']; exact (Below.refl base x).setCell hO.le _
  unfold Oper.wp
  rw [hr, Oper.upon_skip, hdst]
  refine hK A c x' ⟨h6, hO.le, ?_, ?_, ?_, ?_⟩ hb
  · exact fun _ => other_own (hO.parts (by decide)) hg (by decide) hf
  · exact fun _ => other_own (hO.edges (by decide)) hg (by decide) hf
  · exact fun _ => other_own (hO.futs (by decide)) hg (by decide) hf
  · intro _
    rw [hn, hx]
    exact other_own ho hg (by decide) hf
set_option maxRecDepth 100000 in
set_option maxHeartbeats 16000000 in
theorem build_ok (b : List UInt8) (h17 : 17 ≤ b.length) (h9 : b.length ≤ 996) : BuildOk b := by
  intro w A n c base hn hnc hI hA hb
  obtain ⟨T, hT⟩ : ∃ T, T = taskR b := ⟨_, rfl⟩
  have hnp : T.parts.length = cnt b 5 := by rw [hT]; exact partsR_length _ _
  have hne : T.edges.length = cnt b 6 := by rw [hT]; exact edgesR_length _ _
  have hnf : T.futures.length = cnt b 7 := by rw [hT]; exact futsR_length _ _
  have hnr : T.bars.length = cnt b 8 := by rw [hT]; exact barsR_length _ _
  have hbar : ∀ x ∈ T.bars, x.1.length < 256 ∧ x.2.length < 256 := fun x hx => by rw [hT] at hx; have := (small_R b).bars x hx; omega
  have hL := numsT_len b
  have hD : n ≤ 200000 := by omega
  have C1 : ∀ W, Calls Tryz.prog 30 #[.string (txt b), .int .i64 9, .int .i64 4] W fun e w' => e = .returned (.tuple #[.int .i64 T.period, .int .i64 0]) ∧ W = w' := fun W => by rw [hT]; exact get_x (b := b) (p := 9) (x := 4) rfl h9 ⟨4294967296, .inr (.inr ⟨rfl, rfl⟩)⟩ (by omega) W
  have C2 : ∀ W, Calls Tryz.prog 30 #[.string (txt b), .int .i64 13, .int .i64 4] W fun e w' => e = .returned (.tuple #[.int .i64 T.deadline, .int .i64 0]) ∧ W = w' := fun W => by rw [hT]; exact get_x (b := b) (p := 13) (x := 4) rfl h9 ⟨4294967296, .inr (.inr ⟨rfl, rfl⟩)⟩ (by omega) W
  have i5 : ∀ W : World, (Instr.index 9 (.string (txt b)) (.int .i64 5)).run Tryz.prog W = .ok (.int .u8 (cnt b 5 : Int)) W := fun W => idx_txt (b := b) (p := 5) (by omega) W
  have i6 : ∀ W : World, (Instr.index 9 (.string (txt b)) (.int .i64 6)).run Tryz.prog W = .ok (.int .u8 (cnt b 6 : Int)) W := fun W => idx_txt (b := b) (p := 6) (by omega) W
  have i7 : ∀ W : World, (Instr.index 9 (.string (txt b)) (.int .i64 7)).run Tryz.prog W = .ok (.int .u8 (cnt b 7 : Int)) W := fun W => idx_txt (b := b) (p := 7) (by omega) W
  have i8 : ∀ W : World, (Instr.index 9 (.string (txt b)) (.int .i64 8)).run Tryz.prog W = .ok (.int .u8 (cnt b 8 : Int)) W := fun W => idx_txt (b := b) (p := 8) (by omega) W
  have l5 := cnt_lt b 5
  have l6 := cnt_lt b 6
  have l7 := cnt_lt b 7
  have l8 := cnt_lt b 8
  obtain ⟨n5, h5⟩ : ∃ n, n = cnt b 5 := ⟨_, rfl⟩
  obtain ⟨n6, h6⟩ : ∃ n, n = cnt b 6 := ⟨_, rfl⟩
  obtain ⟨n7, h7⟩ : ∃ n, n = cnt b 7 := ⟨_, rfl⟩
  obtain ⟨n8, h8⟩ : ∃ n, n = cnt b 8 := ⟨_, rfl⟩
  rw [← h5] at i5 l5 hnp
  rw [← h6] at i6 l6 hne
  rw [← h7] at i7 l7 hnf
  rw [← h8] at i8 l8 hnr
  rw [← hT] at hI hn ⊢
  have HC1 := Lib.hid C1
  have HC2 := Lib.hid C2
  have HI := Lib.hid hI
  have HA := Lib.hid hA
  have HN := Lib.hid hn
  have HNP := Lib.hid hnp
  have HNE := Lib.hid hne
  have HNF := Lib.hid hnf
  have HNR := Lib.hid hnr
  have HBAR := Lib.hid hbar
  have HBB := Lib.hid hb
  have HL := Lib.hid (show numsT T = [] ++ (T.parts.flatMap tripI ++ (T.edges.flatMap pairI ++ (T.futures.flatMap tripI ++ T.bars.flatMap barI))) from rfl)
  obtain ⟨w0, hw0⟩ : ∃ w0, w0 = w.alloc (.cells #[.int .i64 0, .int .i64 0, .slice none 0 0, .slice none 0 0, .slice none 0 0, .slice none 0 0] 27) := ⟨_, rfl⟩
  have hs0 : w0.heap.size = w.heap.size + 1 := by rw [hw0]; simp
  have hr0 : w0.heap[w.heap.size]? = some (.cells #[.int .i64 0, .int .i64 0, .slice none 0 0, .slice none 0 0, .slice none 0 0, .slice none 0 0] 27 (0, 0)) := by rw [hw0]; exact heap_alloc_new w _
  have hb0 : Below w.heap.size w w0 := by rw [hw0]; exact below_alloc _
  have HS0 := Lib.hid hs0
  have HR0 := Lib.hid hr0
  have HB0 := Lib.hid hb0
  clear hT hL C1 C2 h5 h6 h7 h8 hI hA hn hnp hne hnf hnr hbar hb hs0 hr0 hb0 h17 h9
  go_enter Tryz.func31, Tryz.ntmps31
  go_wp2_with fail
  rw [← hw0]
  clear hw0
  refine (HC1.out _).mono ?_
  rintro e w1 ⟨rfl, rfl⟩
  go_wp2_with fail
  refine (HC2.out _).mono ?_
  rintro e w1 ⟨rfl, rfl⟩
  go_wp2
  obtain ⟨g, hg⟩ : ∃ g, g = w0.heap.size := ⟨_, rfl⟩
  have HB1 : Hid (Bld 4 w0.heap.size g T.period T.deadline (.slice none 0 0) (.slice none 0 0) (.slice none 0 0) (.slice none 0 0) (T.parts.take 0) [] [] [] (w0.alloc (.cells #[.int .i64 T.period, .int .i64 T.deadline, .slice none 0 0, .slice none 0 0, .slice none 0 0, .slice none 0 0] 27))) := Lib.hid ⟨by rw [hg]; exact heap_alloc_new w0 _, by omega, fun _ => ⟨rfl, .inl ⟨rfl, rfl⟩⟩, fun _ => ⟨rfl, .inl ⟨rfl, rfl⟩⟩, fun _ => ⟨rfl, .inl ⟨rfl, rfl⟩⟩, fun _ => ⟨rfl, .inl ⟨rfl, rfl⟩⟩⟩
  have HW1 : Hid (Below w0.heap.size w0 (w0.alloc (.cells #[.int .i64 T.period, .int .i64 T.deadline, .slice none 0 0, .slice none 0 0, .slice none 0 0, .slice none 0 0] 27))) := Lib.hid (below_alloc _)
  rw [← hg]
  have HG := Lib.hid hg
  clear hg
  go_loopw [10, 11] (fun av i wr => ∃ (k m dc : Nat) (Fa : Option Addr), k ≤ n5 ∧ av = .int .i64 (m : Int) ∧ i = .int .i64 (k : Int) ∧ m ≤ n ∧ Hid (m = (([] : List Int) ++ (T.parts.take k).flatMap tripI).length) ∧ Hid (Bld 4 w0.heap.size g T.period T.deadline (.slice Fa k dc) (.slice none 0 0) (.slice none 0 0) (.slice none 0 0) (T.parts.take k) [] [] [] wr) ∧ Hid (Below w0.heap.size w0 wr)) (fun _ i _ => n5 - (intOf i).toNat)
  case atStart => exact ⟨0, 0, 0, none, Nat.zero_le _, rfl, rfl, Nat.zero_le _, Lib.hid rfl, HB1, HW1⟩
  case round =>
    obtain ⟨k, m, dc, Fa, hk, rfl, rfl, hm, HM, HB, HW⟩ := hrel
    clear HB1 HW1
    by_cases hlt : k < n5
    · obtain ⟨x0, x1, x2, he⟩ : ∃ x0 x1 x2, T.parts[k]? = some (x0, x1, x2) := ⟨_, _, _, List.getElem?_eq_getElem (by rw [HNP.out]; exact hlt)⟩
      have HE := Lib.hid he
      obtain ⟨r1, r2, r3, r4⟩ := rows_at (f := tripI) (pre := ([] : List Int)) (suf := (T.edges.flatMap pairI ++ (T.futures.flatMap tripI ++ T.bars.flatMap barI))) (show numsT T = ([] : List Int) ++ (T.parts.flatMap tripI ++ (T.edges.flatMap pairI ++ (T.futures.flatMap tripI ++ T.bars.flatMap barI))) by exact HL.out) he HM.out
      have hfl : (tripI (x0, x1, x2)).length = 3 := rfl
      rw [hfl] at r1 r2 r3
      have hn0 : 0 < (numsT T).length := by omega
      obtain ⟨lb, lo, hAe, hlb, hcell⟩ := HI.out hn0
      subst hAe
      rw [HN.out] at r2 hcell
      have HC0 : Hid (w.cell? ⟨lb, lo + m, none⟩ = some (.int .i64 x0)) := Lib.hid ((hcell (m) (by omega)).trans (congrArg (fun z => some (Value.int .i64 z)) (r1 0 (by omega))))
      have HC1 : Hid (w.cell? ⟨lb, lo + (m + 1), none⟩ = some (.int .i64 x1)) := Lib.hid ((hcell (m + 1) (by omega)).trans (congrArg (fun z => some (Value.int .i64 z)) (r1 1 (by omega))))
      have HC2 : Hid (w.cell? ⟨lb, lo + (m + 2), none⟩ = some (.int .i64 x2)) := Lib.hid ((hcell (m + 2) (by omega)).trans (congrArg (fun z => some (Value.int .i64 z)) (r1 2 (by omega))))
      have HR2 := Lib.hid r2
      have HR3 := Lib.hid r3
      have HR4 := Lib.hid r4
      have hkl : (T.parts.take k).length = k := by rw [List.length_take, HNP.out]; omega
      have HKL := Lib.hid hkl
      clear he r1 r2 r3 r4 hfl hcell hkl hn0
      go_wp2_with fail
      have hrow : wr.ownsRow w0.heap.size 52 3 (Value.slice Fa k dc) k (flatT (T.parts.take k)) := by have h := HB.out.parts (by decide); unfold OwnT at h; rw [HKL.out] at h; exact h
      have HROW := Lib.hid hrow
      have hown : ∀ b, (Value.slice Fa k dc).ownBlock = some b → b < wr.heap.size := fun b hb => (row_lt hrow b hb).2.1
      have HOWN := Lib.hid hown
      clear hrow hown
      refine wp_region_gather' 20 18 [37, 38, 39, 40, 41, 42, 43, 44, 45, 46, 47, 48, 49, 50, 51, 52, 53, 54, 55, 56] (by kernel_rfl) (by kernel_rfl) (by intro d hd; simp at hd ⊢; omega) (fun x => Below w0.heap.size w0 x ∧ Bld 0 w0.heap.size g T.period T.deadline (.slice Fa k dc) (.slice none 0 0) (.slice none 0 0) (.slice none 0 0) (T.parts.take k) [] [] [] x ∧ ∀ b, (Value.slice Fa k dc).ownBlock = some b → b < x.heap.size) (fun x => x.ownsRow w0.heap.size 52 3 (Value.slice Fa k dc) k (flatT (T.parts.take k))) (RX 52 w0.heap.size (Value.slice Fa k dc).ownBlock) (BPhi3 52 g 2 w0.heap.size lb lo n c m k (Value.slice Fa k dc) x0 x1 x2 (flatT (T.parts.take k)))
        (fun _ _ h => .inl h) (fun x y h hr => ⟨h.1.trans (hr.below h.1.size), h.2.1.rx hr (by decide) (fun h => absurd rfl h) (fun _ => by decide) (fun _ => by decide) (fun _ => by decide), fun b hb => Nat.lt_of_lt_of_le (h.2.2 b hb) hr.size⟩) (fun _ _ h hb => own_below h hb) (fun j u x y hj h hr => bphi3_rx j u x y hj h hr) (fun u x y h hb => Grew.below h hb) ⟨HW.out.drew, HB.out.skip.rx (t := 52) (b := w0.heap.size) (row := none) (.inl (Below.refl _ _).drew) (by decide) (fun h => absurd rfl h) (fun _ => by decide) (fun _ => by decide) (fun _ => by decide), HOWN.out⟩ (own_below HROW.out (Below.refl _ _).drew) ?hstep ?hlast
      case hstep =>
        intro j o hj ho ρ x hI hA hd hJ
        have h9 : ρ (.tmp 9) = .pointer (some ⟨g, 0, none⟩) := hA.tmp 9 (by decide)
        have h1 : ρ (.tmp 1) = .slice (some ⟨lb, lo, none⟩) n c := hA.tmp 1 (by decide)
        have h10 : ρ (.tmp 10) = .int .i64 (m : Int) := hA.tmp 10 (by decide)
        have hgF : x.cell? ⟨g, 2, none⟩ = some (Value.slice Fa k dc) := by rw [hI.2.1.cell]; rfl
        have hr2 := HR2.out
        have hc0 : x.cell? ⟨lb, lo + m, none⟩ = some (.int .i64 x0) := (hI.1.cell (by show lb < _; rw [HS0.out]; omega)).trans ((HB0.out.cell (by show lb < _; exact hlb)).trans HC0.out)
        have hc1 : x.cell? ⟨lb, lo + (m + 1), none⟩ = some (.int .i64 x1) := (hI.1.cell (by show lb < _; rw [HS0.out]; omega)).trans ((HB0.out.cell (by show lb < _; exact hlb)).trans HC1.out)
        have hc2 : x.cell? ⟨lb, lo + (m + 2), none⟩ = some (.int .i64 x2) := (hI.1.cell (by show lb < _; rw [HS0.out]; omega)).trans ((HB0.out.cell (by show lb < _; exact hlb)).trans HC2.out)
        match j, hj with
        | 0, _ =>
          have hoo := Option.some.inj ho
          subst hoo
          exact ⟨.pointer (some ⟨g, 2, none⟩), x, by simp [execOp, h9, go_sem], rfl, Below.refl _ _⟩
        | 1, _ =>
          have hoo := Option.some.inj ho
          subst hoo
          have f0 : ρ (.tmp 37) = .pointer (some ⟨g, 2, none⟩) := hd ⟨0, .data⟩ (by simp) (by rfl)
          exact ⟨(Value.slice Fa k dc), x, by simp [execOp, f0, hgF, go_sem], rfl, Below.refl _ _⟩
        | 2, _ =>
          have hoo := Option.some.inj ho
          subst hoo
          exact ⟨.slice (some ⟨lb, lo, none⟩) n c, x, by simp [execOp, h1, go_sem], rfl, Below.refl _ _⟩
        | 3, _ =>
          have hoo := Option.some.inj ho
          subst hoo
          exact ⟨.int .i64 (m : Int), x, by simp [execOp, h10, go_sem], rfl, Below.refl _ _⟩
        | 4, _ =>
          have hoo := Option.some.inj ho
          subst hoo
          have f2 : ρ (.tmp 39) = .slice (some ⟨lb, lo, none⟩) n c := hd ⟨2, .data⟩ (by simp) (by rfl)
          have f3 : ρ (.tmp 40) = .int .i64 (m : Int) := hd ⟨3, .data⟩ (by simp) (by rfl)
          exact ⟨.pointer (some ⟨lb, lo + m, none⟩), x, idx_eq (k := m) rfl f2 f3 (by omega), rfl, Below.refl _ _⟩
        | 5, _ =>
          have hoo := Option.some.inj ho
          subst hoo
          have f4 : ρ (.tmp 41) = .pointer (some ⟨lb, lo + m, none⟩) := hd ⟨4, .data⟩ (by simp) (by rfl)
          exact ⟨.int .i64 x0, x, by simp [execOp, f4, hc0, go_sem], rfl, Below.refl _ _⟩
        | 6, _ =>
          have hoo := Option.some.inj ho
          subst hoo
          exact ⟨.slice (some ⟨lb, lo, none⟩) n c, x, by simp [execOp, h1, go_sem], rfl, Below.refl _ _⟩
        | 7, _ =>
          have hoo := Option.some.inj ho
          subst hoo
          exact ⟨.int .i64 (m : Int), x, by simp [execOp, h10, go_sem], rfl, Below.refl _ _⟩
        | 8, _ =>
          have hoo := Option.some.inj ho
          subst hoo
          have f7 : ρ (.tmp 44) = .int .i64 (m : Int) := hd ⟨7, .data⟩ (by simp) (by rfl)
          exact ⟨.int .i64 ((m + 1 : Nat) : Int), x, add_eq (a := (m : Int)) (b := 1) rfl f7 (hA.const _) (by omega) (by omega), rfl, Below.refl _ _⟩
        | 9, _ =>
          have hoo := Option.some.inj ho
          subst hoo
          have f6 : ρ (.tmp 43) = .slice (some ⟨lb, lo, none⟩) n c := hd ⟨6, .data⟩ (by simp) (by rfl)
          have f8 : ρ (.tmp 45) = .int .i64 ((m + 1 : Nat) : Int) := hd ⟨8, .data⟩ (by simp) (by rfl)
          exact ⟨.pointer (some ⟨lb, lo + (m + 1), none⟩), x, idx_eq (k := m + 1) rfl f6 f8 (by omega), rfl, Below.refl _ _⟩
        | 10, _ =>
          have hoo := Option.some.inj ho
          subst hoo
          have f9 : ρ (.tmp 46) = .pointer (some ⟨lb, lo + (m + 1), none⟩) := hd ⟨9, .data⟩ (by simp) (by rfl)
          exact ⟨.int .i64 x1, x, by simp [execOp, f9, hc1, go_sem], rfl, Below.refl _ _⟩
        | 11, _ =>
          have hoo := Option.some.inj ho
          subst hoo
          exact ⟨.slice (some ⟨lb, lo, none⟩) n c, x, by simp [execOp, h1, go_sem], rfl, Below.refl _ _⟩
        | 12, _ =>
          have hoo := Option.some.inj ho
          subst hoo
          exact ⟨.int .i64 (m : Int), x, by simp [execOp, h10, go_sem], rfl, Below.refl _ _⟩
        | 13, _ =>
          have hoo := Option.some.inj ho
          subst hoo
          have f12 : ρ (.tmp 49) = .int .i64 (m : Int) := hd ⟨12, .data⟩ (by simp) (by rfl)
          exact ⟨.int .i64 ((m + 2 : Nat) : Int), x, add_eq (a := (m : Int)) (b := 2) rfl f12 (hA.const _) (by omega) (by omega), rfl, Below.refl _ _⟩
        | 14, _ =>
          have hoo := Option.some.inj ho
          subst hoo
          have f11 : ρ (.tmp 48) = .slice (some ⟨lb, lo, none⟩) n c := hd ⟨11, .data⟩ (by simp) (by rfl)
          have f13 : ρ (.tmp 50) = .int .i64 ((m + 2 : Nat) : Int) := hd ⟨13, .data⟩ (by simp) (by rfl)
          exact ⟨.pointer (some ⟨lb, lo + (m + 2), none⟩), x, idx_eq (k := m + 2) rfl f11 f13 (by omega), rfl, Below.refl _ _⟩
        | 15, _ =>
          have hoo := Option.some.inj ho
          subst hoo
          have f14 : ρ (.tmp 51) = .pointer (some ⟨lb, lo + (m + 2), none⟩) := hd ⟨14, .data⟩ (by simp) (by rfl)
          exact ⟨.int .i64 x2, x, by simp [execOp, f14, hc2, go_sem], rfl, Below.refl _ _⟩
        | 16, _ =>
          have hoo := Option.some.inj ho
          subst hoo
          have f5 : ρ (.tmp 42) = .int .i64 x0 := hd ⟨5, .data⟩ (by simp) (by rfl)
          have f10 : ρ (.tmp 47) = .int .i64 x1 := hd ⟨10, .data⟩ (by simp) (by rfl)
          have f15 : ρ (.tmp 52) = .int .i64 x2 := hd ⟨15, .data⟩ (by simp) (by rfl)
          exact ⟨.agg #[.int .i64 x0, .int .i64 x1, .int .i64 x2], x, by simp [execOp, f5, f10, f15, go_sem], rfl, Below.refl _ _⟩
        | 17, _ =>
          have hoo := Option.some.inj ho
          subst hoo
          have f16 : ρ (.tmp 53) = .agg #[.int .i64 x0, .int .i64 x1, .int .i64 x2] := hd ⟨16, .data⟩ (by simp) (by rfl)
          exact ⟨.slice (some ⟨x.heap.size, 0, none⟩) 1 1, x.alloc (.cells #[.int .i64 x0, .int .i64 x1, .int .i64 x2] 52), by simp [execOp, f16, go_sem], ⟨_, rfl, heap_alloc_new x _, fun e => by have := hI.2.2 _ e; omega⟩, below_alloc _⟩
        | 18, _ =>
          have hoo := Option.some.inj ho
          subst hoo
          have f1 : ρ (.tmp 38) = (Value.slice Fa k dc) := hd ⟨1, .data⟩ (by simp) (by rfl)
          have f17 : OwnX 52 (Value.slice Fa k dc).ownBlock [.int .i64 x0, .int .i64 x1, .int .i64 x2] (ρ (.tmp 54)) x := hd ⟨17, .data⟩ (by simp) (by rfl)
          obtain ⟨u', w2, hr, how, hrb⟩ := ownX_append (tl := 22) Tryz.underlying22 part_info rfl (by omega) (by omega) (hJ rfl) f17 rfl (by simp [Value.oneCell']) (by omega) hI.1.size
          exact ⟨u', w2, by simp [execOp, resolve, invoke, builtin, f1, hr, Result.andThen], how, hrb⟩
        | 19, _ =>
          have hoo := Option.some.inj ho
          subst hoo
          exact ⟨.pointer (some ⟨g, 2, none⟩), x, by simp [execOp, h9, go_sem], rfl, Below.refl _ _⟩
        | j + 20, hk => omega
      case hlast =>
        intro o ho vals x hI hF
        have hoo := Option.some.inj ho
        subst hoo
        have f1 : Grew 52 w0.heap.size 3 (k + 1) ((flatT (T.parts.take k)) ++ [.int .i64 x0, .int .i64 x1, .int .i64 x2]) (vals 55) x := hF 18 (by decide)
        have f2 : vals 56 = .pointer (some ⟨g, 2, none⟩) := hF 19 (by decide)
        refine bld_store0 (.tmp 56) (.tmp 55) rfl rfl hI.2.1 f1 f2 (T.parts.take (k + 1)) (by rw [HR4.out, List.length_append, HKL.out]; rfl) (by rw [HR4.out, flatT_snoc]) ?_
        intro A' c' x' hN hN2
        have HN1 := Lib.hid hN
        have HN2 := Lib.hid (hI.1.trans hN2)
        have hr2 := HR2.out
        clear hN hN2 hI hF f1 f2
        simp only [fillA, fillL, List.contains_cons, List.contains_nil, Nat.reduceBEq, Bool.or_false, Bool.false_or, Bool.or_true, Bool.true_or, cond_true, cond_false, Nat.zero_add, Nat.reduceAdd]
        go_wp2
        go_roundw
        case rel => exact ⟨k + 1, m + 3, c', A', by omega, by go_num, by go_num, by omega, Lib.hid HR3.out, HN1, HN2⟩
        case measure => simp [intOf]; omega
    · obtain rfl : n5 = k := by omega
      have htk : T.parts.take n5 = T.parts := List.take_of_length_le (by rw [HNP.out]; exact Nat.le_refl _)
      have HB1 : Hid (Bld 4 w0.heap.size g T.period T.deadline (.slice Fa n5 dc) (.slice none 0 0) (.slice none 0 0) (.slice none 0 0) T.parts [] [] [] wr) := Lib.hid (by have h := HB.out; rwa [htk] at h)
      have HM1 : Hid (m = ((([] : List Int) ++ T.parts.flatMap tripI) ++ (T.edges.take 0).flatMap pairI).length) := Lib.hid (by have h := HM.out; rw [htk] at h; rw [List.take_zero, List.flatMap_nil, List.append_nil]; exact h)
      obtain ⟨F0, hF0⟩ : ∃ F, F = Fa := ⟨_, rfl⟩
      obtain ⟨D0, hD0⟩ : ∃ D, D = dc := ⟨_, rfl⟩
      rw [← hF0, ← hD0] at HB1
      clear hF0 hD0 htk HB HM
      go_wp2
      go_loopw [10, 12] (fun av i wr => ∃ (k m dc : Nat) (Fa : Option Addr), k ≤ n6 ∧ av = .int .i64 (m : Int) ∧ i = .int .i64 (k : Int) ∧ m ≤ n ∧ Hid (m = ((([] : List Int) ++ T.parts.flatMap tripI) ++ (T.edges.take k).flatMap pairI).length) ∧ Hid (Bld 4 w0.heap.size g T.period T.deadline (.slice F0 n5 D0) (.slice Fa k dc) (.slice none 0 0) (.slice none 0 0) T.parts (T.edges.take k) [] [] wr) ∧ Hid (Below w0.heap.size w0 wr)) (fun _ i _ => n6 - (intOf i).toNat)
      case atStart => exact ⟨0, m, 0, none, Nat.zero_le _, rfl, rfl, hm, HM1, HB1, HW⟩
      case round =>
        obtain ⟨k, m, dc, Fa, hk, rfl, rfl, hm, HM, HB, HW⟩ := hrel
        clear HB1 HM1
        by_cases hlt : k < n6
        · obtain ⟨x0, x1, he⟩ : ∃ x0 x1, T.edges[k]? = some (x0, x1) := ⟨_, _, List.getElem?_eq_getElem (by rw [HNE.out]; exact hlt)⟩
          have HE := Lib.hid he
          obtain ⟨r1, r2, r3, r4⟩ := rows_at (f := pairI) (pre := (([] : List Int) ++ T.parts.flatMap tripI)) (suf := (T.futures.flatMap tripI ++ T.bars.flatMap barI)) (show numsT T = (([] : List Int) ++ T.parts.flatMap tripI) ++ (T.edges.flatMap pairI ++ (T.futures.flatMap tripI ++ T.bars.flatMap barI)) by rw [HL.out]; simp only [List.append_assoc, List.append_nil, List.nil_append]) he HM.out
          have hfl : (pairI (x0, x1)).length = 2 := rfl
          rw [hfl] at r1 r2 r3
          have hn0 : 0 < (numsT T).length := by omega
          obtain ⟨lb, lo, hAe, hlb, hcell⟩ := HI.out hn0
          subst hAe
          rw [HN.out] at r2 hcell
          have HC0 : Hid (w.cell? ⟨lb, lo + m, none⟩ = some (.int .i64 x0)) := Lib.hid ((hcell (m) (by omega)).trans (congrArg (fun z => some (Value.int .i64 z)) (r1 0 (by omega))))
          have HC1 : Hid (w.cell? ⟨lb, lo + (m + 1), none⟩ = some (.int .i64 x1)) := Lib.hid ((hcell (m + 1) (by omega)).trans (congrArg (fun z => some (Value.int .i64 z)) (r1 1 (by omega))))
          have HR2 := Lib.hid r2
          have HR3 := Lib.hid r3
          have HR4 := Lib.hid r4
          have hkl : (T.edges.take k).length = k := by rw [List.length_take, HNE.out]; omega
          have HKL := Lib.hid hkl
          clear he r1 r2 r3 r4 hfl hcell hkl hn0
          go_wp2_with fail
          have hrow : wr.ownsRow w0.heap.size 56 2 (Value.slice Fa k dc) k (flatE (T.edges.take k)) := by have h := HB.out.edges (by decide); unfold OwnE at h; rw [HKL.out] at h; exact h
          have HROW := Lib.hid hrow
          have hown : ∀ b, (Value.slice Fa k dc).ownBlock = some b → b < wr.heap.size := fun b hb => (row_lt hrow b hb).2.1
          have HOWN := Lib.hid hown
          clear hrow hown
          refine wp_region_gather' 15 13 [66, 67, 68, 69, 70, 71, 72, 73, 74, 75, 76, 77, 78, 79, 80] (by kernel_rfl) (by kernel_rfl) (by intro d hd; simp at hd ⊢; omega) (fun x => Below w0.heap.size w0 x ∧ Bld 1 w0.heap.size g T.period T.deadline (.slice F0 n5 D0) (.slice Fa k dc) (.slice none 0 0) (.slice none 0 0) T.parts (T.edges.take k) [] [] x ∧ ∀ b, (Value.slice Fa k dc).ownBlock = some b → b < x.heap.size) (fun x => x.ownsRow w0.heap.size 56 2 (Value.slice Fa k dc) k (flatE (T.edges.take k))) (RX 56 w0.heap.size (Value.slice Fa k dc).ownBlock) (BPhi2 56 g 3 w0.heap.size lb lo n c m k (Value.slice Fa k dc) x0 x1 (flatE (T.edges.take k)))
            (fun _ _ h => .inl h) (fun x y h hr => ⟨h.1.trans (hr.below h.1.size), h.2.1.rx hr (by decide) (fun _ => by decide) (fun h => absurd rfl h) (fun _ => by decide) (fun _ => by decide), fun b hb => Nat.lt_of_lt_of_le (h.2.2 b hb) hr.size⟩) (fun _ _ h hb => own_below h hb) (fun j u x y hj h hr => bphi2_rx j u x y hj h hr) (fun u x y h hb => Grew.below h hb) ⟨HW.out.drew, HB.out.skip.rx (t := 56) (b := w0.heap.size) (row := none) (.inl (Below.refl _ _).drew) (by decide) (fun _ => by decide) (fun h => absurd rfl h) (fun _ => by decide) (fun _ => by decide), HOWN.out⟩ (own_below HROW.out (Below.refl _ _).drew) ?hstep ?hlast
          case hstep =>
            intro j o hj ho ρ x hI hA hd hJ
            have h9 : ρ (.tmp 9) = .pointer (some ⟨g, 0, none⟩) := hA.tmp 9 (by decide)
            have h1 : ρ (.tmp 1) = .slice (some ⟨lb, lo, none⟩) n c := hA.tmp 1 (by decide)
            have h10 : ρ (.tmp 10) = .int .i64 (m : Int) := hA.tmp 10 (by decide)
            have hgF : x.cell? ⟨g, 3, none⟩ = some (Value.slice Fa k dc) := by rw [hI.2.1.cell]; rfl
            have hr2 := HR2.out
            have hc0 : x.cell? ⟨lb, lo + m, none⟩ = some (.int .i64 x0) := (hI.1.cell (by show lb < _; rw [HS0.out]; omega)).trans ((HB0.out.cell (by show lb < _; exact hlb)).trans HC0.out)
            have hc1 : x.cell? ⟨lb, lo + (m + 1), none⟩ = some (.int .i64 x1) := (hI.1.cell (by show lb < _; rw [HS0.out]; omega)).trans ((HB0.out.cell (by show lb < _; exact hlb)).trans HC1.out)
            match j, hj with
            | 0, _ =>
              have hoo := Option.some.inj ho
              subst hoo
              exact ⟨.pointer (some ⟨g, 3, none⟩), x, by simp [execOp, h9, go_sem], rfl, Below.refl _ _⟩
            | 1, _ =>
              have hoo := Option.some.inj ho
              subst hoo
              have f0 : ρ (.tmp 66) = .pointer (some ⟨g, 3, none⟩) := hd ⟨0, .data⟩ (by simp) (by rfl)
              exact ⟨(Value.slice Fa k dc), x, by simp [execOp, f0, hgF, go_sem], rfl, Below.refl _ _⟩
            | 2, _ =>
              have hoo := Option.some.inj ho
              subst hoo
              exact ⟨.slice (some ⟨lb, lo, none⟩) n c, x, by simp [execOp, h1, go_sem], rfl, Below.refl _ _⟩
            | 3, _ =>
              have hoo := Option.some.inj ho
              subst hoo
              exact ⟨.int .i64 (m : Int), x, by simp [execOp, h10, go_sem], rfl, Below.refl _ _⟩
            | 4, _ =>
              have hoo := Option.some.inj ho
              subst hoo
              have f2 : ρ (.tmp 68) = .slice (some ⟨lb, lo, none⟩) n c := hd ⟨2, .data⟩ (by simp) (by rfl)
              have f3 : ρ (.tmp 69) = .int .i64 (m : Int) := hd ⟨3, .data⟩ (by simp) (by rfl)
              exact ⟨.pointer (some ⟨lb, lo + m, none⟩), x, idx_eq (k := m) rfl f2 f3 (by omega), rfl, Below.refl _ _⟩
            | 5, _ =>
              have hoo := Option.some.inj ho
              subst hoo
              have f4 : ρ (.tmp 70) = .pointer (some ⟨lb, lo + m, none⟩) := hd ⟨4, .data⟩ (by simp) (by rfl)
              exact ⟨.int .i64 x0, x, by simp [execOp, f4, hc0, go_sem], rfl, Below.refl _ _⟩
            | 6, _ =>
              have hoo := Option.some.inj ho
              subst hoo
              exact ⟨.slice (some ⟨lb, lo, none⟩) n c, x, by simp [execOp, h1, go_sem], rfl, Below.refl _ _⟩
            | 7, _ =>
              have hoo := Option.some.inj ho
              subst hoo
              exact ⟨.int .i64 (m : Int), x, by simp [execOp, h10, go_sem], rfl, Below.refl _ _⟩
            | 8, _ =>
              have hoo := Option.some.inj ho
              subst hoo
              have f7 : ρ (.tmp 73) = .int .i64 (m : Int) := hd ⟨7, .data⟩ (by simp) (by rfl)
              exact ⟨.int .i64 ((m + 1 : Nat) : Int), x, add_eq (a := (m : Int)) (b := 1) rfl f7 (hA.const _) (by omega) (by omega), rfl, Below.refl _ _⟩
            | 9, _ =>
              have hoo := Option.some.inj ho
              subst hoo
              have f6 : ρ (.tmp 72) = .slice (some ⟨lb, lo, none⟩) n c := hd ⟨6, .data⟩ (by simp) (by rfl)
              have f8 : ρ (.tmp 74) = .int .i64 ((m + 1 : Nat) : Int) := hd ⟨8, .data⟩ (by simp) (by rfl)
              exact ⟨.pointer (some ⟨lb, lo + (m + 1), none⟩), x, idx_eq (k := m + 1) rfl f6 f8 (by omega), rfl, Below.refl _ _⟩
            | 10, _ =>
              have hoo := Option.some.inj ho
              subst hoo
              have f9 : ρ (.tmp 75) = .pointer (some ⟨lb, lo + (m + 1), none⟩) := hd ⟨9, .data⟩ (by simp) (by rfl)
              exact ⟨.int .i64 x1, x, by simp [execOp, f9, hc1, go_sem], rfl, Below.refl _ _⟩
            | 11, _ =>
              have hoo := Option.some.inj ho
              subst hoo
              have f5 : ρ (.tmp 71) = .int .i64 x0 := hd ⟨5, .data⟩ (by simp) (by rfl)
              have f10 : ρ (.tmp 76) = .int .i64 x1 := hd ⟨10, .data⟩ (by simp) (by rfl)
              exact ⟨.agg #[.int .i64 x0, .int .i64 x1], x, by simp [execOp, f5, f10, go_sem], rfl, Below.refl _ _⟩
            | 12, _ =>
              have hoo := Option.some.inj ho
              subst hoo
              have f11 : ρ (.tmp 77) = .agg #[.int .i64 x0, .int .i64 x1] := hd ⟨11, .data⟩ (by simp) (by rfl)
              exact ⟨.slice (some ⟨x.heap.size, 0, none⟩) 1 1, x.alloc (.cells #[.int .i64 x0, .int .i64 x1] 56), by simp [execOp, f11, go_sem], ⟨_, rfl, heap_alloc_new x _, fun e => by have := hI.2.2 _ e; omega⟩, below_alloc _⟩
            | 13, _ =>
              have hoo := Option.some.inj ho
              subst hoo
              have f1 : ρ (.tmp 67) = (Value.slice Fa k dc) := hd ⟨1, .data⟩ (by simp) (by rfl)
              have f12 : OwnX 56 (Value.slice Fa k dc).ownBlock [.int .i64 x0, .int .i64 x1] (ρ (.tmp 78)) x := hd ⟨12, .data⟩ (by simp) (by rfl)
              obtain ⟨u', w2, hr, how, hrb⟩ := ownX_append (tl := 23) Tryz.underlying23 edge_cell_info rfl (by omega) (by omega) (hJ rfl) f12 rfl (by simp [Value.oneCell']) (by omega) hI.1.size
              exact ⟨u', w2, by simp [execOp, resolve, invoke, builtin, f1, hr, Result.andThen], how, hrb⟩
            | 14, _ =>
              have hoo := Option.some.inj ho
              subst hoo
              exact ⟨.pointer (some ⟨g, 3, none⟩), x, by simp [execOp, h9, go_sem], rfl, Below.refl _ _⟩
            | j + 15, hk => omega
          case hlast =>
            intro o ho vals x hI hF
            have hoo := Option.some.inj ho
            subst hoo
            have f1 : Grew 56 w0.heap.size 2 (k + 1) ((flatE (T.edges.take k)) ++ [.int .i64 x0, .int .i64 x1]) (vals 79) x := hF 13 (by decide)
            have f2 : vals 80 = .pointer (some ⟨g, 3, none⟩) := hF 14 (by decide)
            refine bld_store1 (.tmp 80) (.tmp 79) rfl rfl hI.2.1 f1 f2 (T.edges.take (k + 1)) (by rw [HR4.out, List.length_append, HKL.out]; rfl) (by rw [HR4.out, flatE_snoc]) ?_
            intro A' c' x' hN hN2
            have HN1 := Lib.hid hN
            have HN2 := Lib.hid (hI.1.trans hN2)
            have hr2 := HR2.out
            clear hN hN2 hI hF f1 f2
            simp only [fillA, fillL, List.contains_cons, List.contains_nil, Nat.reduceBEq, Bool.or_false, Bool.false_or, Bool.or_true, Bool.true_or, cond_true, cond_false, Nat.zero_add, Nat.reduceAdd]
            go_wp2
            go_roundw
            case rel => exact ⟨k + 1, m + 2, c', A', by omega, by go_num, by go_num, by omega, Lib.hid HR3.out, HN1, HN2⟩
            case measure => simp [intOf]; omega
        · obtain rfl : n6 = k := by omega
          have htk : T.edges.take n6 = T.edges := List.take_of_length_le (by rw [HNE.out]; exact Nat.le_refl _)
          have HB1 : Hid (Bld 4 w0.heap.size g T.period T.deadline (.slice F0 n5 D0) (.slice Fa n6 dc) (.slice none 0 0) (.slice none 0 0) T.parts T.edges [] [] wr) := Lib.hid (by have h := HB.out; rwa [htk] at h)
          have HM1 : Hid (m = (((([] : List Int) ++ T.parts.flatMap tripI) ++ T.edges.flatMap pairI) ++ (T.futures.take 0).flatMap tripI).length) := Lib.hid (by have h := HM.out; rw [htk] at h; rw [List.take_zero, List.flatMap_nil, List.append_nil]; exact h)
          obtain ⟨F1, hF1⟩ : ∃ F, F = Fa := ⟨_, rfl⟩
          obtain ⟨D1, hD1⟩ : ∃ D, D = dc := ⟨_, rfl⟩
          rw [← hF1, ← hD1] at HB1
          clear hF1 hD1 htk HB HM
          go_wp2
          go_loopw [10, 13] (fun av i wr => ∃ (k m dc : Nat) (Fa : Option Addr), k ≤ n7 ∧ av = .int .i64 (m : Int) ∧ i = .int .i64 (k : Int) ∧ m ≤ n ∧ Hid (m = (((([] : List Int) ++ T.parts.flatMap tripI) ++ T.edges.flatMap pairI) ++ (T.futures.take k).flatMap tripI).length) ∧ Hid (Bld 4 w0.heap.size g T.period T.deadline (.slice F0 n5 D0) (.slice F1 n6 D1) (.slice Fa k dc) (.slice none 0 0) T.parts T.edges (T.futures.take k) [] wr) ∧ Hid (Below w0.heap.size w0 wr)) (fun _ i _ => n7 - (intOf i).toNat)
          case atStart => exact ⟨0, m, 0, none, Nat.zero_le _, rfl, rfl, hm, HM1, HB1, HW⟩
          case round =>
            obtain ⟨k, m, dc, Fa, hk, rfl, rfl, hm, HM, HB, HW⟩ := hrel
            clear HB1 HM1
            by_cases hlt : k < n7
            · obtain ⟨x0, x1, x2, he⟩ : ∃ x0 x1 x2, T.futures[k]? = some (x0, x1, x2) := ⟨_, _, _, List.getElem?_eq_getElem (by rw [HNF.out]; exact hlt)⟩
              have HE := Lib.hid he
              obtain ⟨r1, r2, r3, r4⟩ := rows_at (f := tripI) (pre := ((([] : List Int) ++ T.parts.flatMap tripI) ++ T.edges.flatMap pairI)) (suf := (T.bars.flatMap barI)) (show numsT T = ((([] : List Int) ++ T.parts.flatMap tripI) ++ T.edges.flatMap pairI) ++ (T.futures.flatMap tripI ++ (T.bars.flatMap barI)) by rw [HL.out]; simp only [List.append_assoc, List.append_nil, List.nil_append]) he HM.out
              have hfl : (tripI (x0, x1, x2)).length = 3 := rfl
              rw [hfl] at r1 r2 r3
              have hn0 : 0 < (numsT T).length := by omega
              obtain ⟨lb, lo, hAe, hlb, hcell⟩ := HI.out hn0
              subst hAe
              rw [HN.out] at r2 hcell
              have HC0 : Hid (w.cell? ⟨lb, lo + m, none⟩ = some (.int .i64 x0)) := Lib.hid ((hcell (m) (by omega)).trans (congrArg (fun z => some (Value.int .i64 z)) (r1 0 (by omega))))
              have HC1 : Hid (w.cell? ⟨lb, lo + (m + 1), none⟩ = some (.int .i64 x1)) := Lib.hid ((hcell (m + 1) (by omega)).trans (congrArg (fun z => some (Value.int .i64 z)) (r1 1 (by omega))))
              have HC2 : Hid (w.cell? ⟨lb, lo + (m + 2), none⟩ = some (.int .i64 x2)) := Lib.hid ((hcell (m + 2) (by omega)).trans (congrArg (fun z => some (Value.int .i64 z)) (r1 2 (by omega))))
              have HR2 := Lib.hid r2
              have HR3 := Lib.hid r3
              have HR4 := Lib.hid r4
              have hkl : (T.futures.take k).length = k := by rw [List.length_take, HNF.out]; omega
              have HKL := Lib.hid hkl
              clear he r1 r2 r3 r4 hfl hcell hkl hn0
              go_wp2_with fail
              have hrow : wr.ownsRow w0.heap.size 58 3 (Value.slice Fa k dc) k (flatT (T.futures.take k)) := by have h := HB.out.futs (by decide); unfold OwnT at h; rw [HKL.out] at h; exact h
              have HROW := Lib.hid hrow
              have hown : ∀ b, (Value.slice Fa k dc).ownBlock = some b → b < wr.heap.size := fun b hb => (row_lt hrow b hb).2.1
              have HOWN := Lib.hid hown
              clear hrow hown
              refine wp_region_gather' 20 18 [90, 91, 92, 93, 94, 95, 96, 97, 98, 99, 100, 101, 102, 103, 104, 105, 106, 107, 108, 109] (by kernel_rfl) (by kernel_rfl) (by intro d hd; simp at hd ⊢; omega) (fun x => Below w0.heap.size w0 x ∧ Bld 2 w0.heap.size g T.period T.deadline (.slice F0 n5 D0) (.slice F1 n6 D1) (.slice Fa k dc) (.slice none 0 0) T.parts T.edges (T.futures.take k) [] x ∧ ∀ b, (Value.slice Fa k dc).ownBlock = some b → b < x.heap.size) (fun x => x.ownsRow w0.heap.size 58 3 (Value.slice Fa k dc) k (flatT (T.futures.take k))) (RX 58 w0.heap.size (Value.slice Fa k dc).ownBlock) (BPhi3 58 g 4 w0.heap.size lb lo n c m k (Value.slice Fa k dc) x0 x1 x2 (flatT (T.futures.take k)))
                (fun _ _ h => .inl h) (fun x y h hr => ⟨h.1.trans (hr.below h.1.size), h.2.1.rx hr (by decide) (fun _ => by decide) (fun _ => by decide) (fun h => absurd rfl h) (fun _ => by decide), fun b hb => Nat.lt_of_lt_of_le (h.2.2 b hb) hr.size⟩) (fun _ _ h hb => own_below h hb) (fun j u x y hj h hr => bphi3_rx j u x y hj h hr) (fun u x y h hb => Grew.below h hb) ⟨HW.out.drew, HB.out.skip.rx (t := 58) (b := w0.heap.size) (row := none) (.inl (Below.refl _ _).drew) (by decide) (fun _ => by decide) (fun _ => by decide) (fun h => absurd rfl h) (fun _ => by decide), HOWN.out⟩ (own_below HROW.out (Below.refl _ _).drew) ?hstep ?hlast
              case hstep =>
                intro j o hj ho ρ x hI hA hd hJ
                have h9 : ρ (.tmp 9) = .pointer (some ⟨g, 0, none⟩) := hA.tmp 9 (by decide)
                have h1 : ρ (.tmp 1) = .slice (some ⟨lb, lo, none⟩) n c := hA.tmp 1 (by decide)
                have h10 : ρ (.tmp 10) = .int .i64 (m : Int) := hA.tmp 10 (by decide)
                have hgF : x.cell? ⟨g, 4, none⟩ = some (Value.slice Fa k dc) := by rw [hI.2.1.cell]; rfl
                have hr2 := HR2.out
                have hc0 : x.cell? ⟨lb, lo + m, none⟩ = some (.int .i64 x0) := (hI.1.cell (by show lb < _; rw [HS0.out]; omega)).trans ((HB0.out.cell (by show lb < _; exact hlb)).trans HC0.out)
                have hc1 : x.cell? ⟨lb, lo + (m + 1), none⟩ = some (.int .i64 x1) := (hI.1.cell (by show lb < _; rw [HS0.out]; omega)).trans ((HB0.out.cell (by show lb < _; exact hlb)).trans HC1.out)
                have hc2 : x.cell? ⟨lb, lo + (m + 2), none⟩ = some (.int .i64 x2) := (hI.1.cell (by show lb < _; rw [HS0.out]; omega)).trans ((HB0.out.cell (by show lb < _; exact hlb)).trans HC2.out)
                match j, hj with
                | 0, _ =>
                  have hoo := Option.some.inj ho
                  subst hoo
                  exact ⟨.pointer (some ⟨g, 4, none⟩), x, by simp [execOp, h9, go_sem], rfl, Below.refl _ _⟩
                | 1, _ =>
                  have hoo := Option.some.inj ho
                  subst hoo
                  have f0 : ρ (.tmp 90) = .pointer (some ⟨g, 4, none⟩) := hd ⟨0, .data⟩ (by simp) (by rfl)
                  exact ⟨(Value.slice Fa k dc), x, by simp [execOp, f0, hgF, go_sem], rfl, Below.refl _ _⟩
                | 2, _ =>
                  have hoo := Option.some.inj ho
                  subst hoo
                  exact ⟨.slice (some ⟨lb, lo, none⟩) n c, x, by simp [execOp, h1, go_sem], rfl, Below.refl _ _⟩
                | 3, _ =>
                  have hoo := Option.some.inj ho
                  subst hoo
                  exact ⟨.int .i64 (m : Int), x, by simp [execOp, h10, go_sem], rfl, Below.refl _ _⟩
                | 4, _ =>
                  have hoo := Option.some.inj ho
                  subst hoo
                  have f2 : ρ (.tmp 92) = .slice (some ⟨lb, lo, none⟩) n c := hd ⟨2, .data⟩ (by simp) (by rfl)
                  have f3 : ρ (.tmp 93) = .int .i64 (m : Int) := hd ⟨3, .data⟩ (by simp) (by rfl)
                  exact ⟨.pointer (some ⟨lb, lo + m, none⟩), x, idx_eq (k := m) rfl f2 f3 (by omega), rfl, Below.refl _ _⟩
                | 5, _ =>
                  have hoo := Option.some.inj ho
                  subst hoo
                  have f4 : ρ (.tmp 94) = .pointer (some ⟨lb, lo + m, none⟩) := hd ⟨4, .data⟩ (by simp) (by rfl)
                  exact ⟨.int .i64 x0, x, by simp [execOp, f4, hc0, go_sem], rfl, Below.refl _ _⟩
                | 6, _ =>
                  have hoo := Option.some.inj ho
                  subst hoo
                  exact ⟨.slice (some ⟨lb, lo, none⟩) n c, x, by simp [execOp, h1, go_sem], rfl, Below.refl _ _⟩
                | 7, _ =>
                  have hoo := Option.some.inj ho
                  subst hoo
                  exact ⟨.int .i64 (m : Int), x, by simp [execOp, h10, go_sem], rfl, Below.refl _ _⟩
                | 8, _ =>
                  have hoo := Option.some.inj ho
                  subst hoo
                  have f7 : ρ (.tmp 97) = .int .i64 (m : Int) := hd ⟨7, .data⟩ (by simp) (by rfl)
                  exact ⟨.int .i64 ((m + 1 : Nat) : Int), x, add_eq (a := (m : Int)) (b := 1) rfl f7 (hA.const _) (by omega) (by omega), rfl, Below.refl _ _⟩
                | 9, _ =>
                  have hoo := Option.some.inj ho
                  subst hoo
                  have f6 : ρ (.tmp 96) = .slice (some ⟨lb, lo, none⟩) n c := hd ⟨6, .data⟩ (by simp) (by rfl)
                  have f8 : ρ (.tmp 98) = .int .i64 ((m + 1 : Nat) : Int) := hd ⟨8, .data⟩ (by simp) (by rfl)
                  exact ⟨.pointer (some ⟨lb, lo + (m + 1), none⟩), x, idx_eq (k := m + 1) rfl f6 f8 (by omega), rfl, Below.refl _ _⟩
                | 10, _ =>
                  have hoo := Option.some.inj ho
                  subst hoo
                  have f9 : ρ (.tmp 99) = .pointer (some ⟨lb, lo + (m + 1), none⟩) := hd ⟨9, .data⟩ (by simp) (by rfl)
                  exact ⟨.int .i64 x1, x, by simp [execOp, f9, hc1, go_sem], rfl, Below.refl _ _⟩
                | 11, _ =>
                  have hoo := Option.some.inj ho
                  subst hoo
                  exact ⟨.slice (some ⟨lb, lo, none⟩) n c, x, by simp [execOp, h1, go_sem], rfl, Below.refl _ _⟩
                | 12, _ =>
                  have hoo := Option.some.inj ho
                  subst hoo
                  exact ⟨.int .i64 (m : Int), x, by simp [execOp, h10, go_sem], rfl, Below.refl _ _⟩
                | 13, _ =>
                  have hoo := Option.some.inj ho
                  subst hoo
                  have f12 : ρ (.tmp 102) = .int .i64 (m : Int) := hd ⟨12, .data⟩ (by simp) (by rfl)
                  exact ⟨.int .i64 ((m + 2 : Nat) : Int), x, add_eq (a := (m : Int)) (b := 2) rfl f12 (hA.const _) (by omega) (by omega), rfl, Below.refl _ _⟩
                | 14, _ =>
                  have hoo := Option.some.inj ho
                  subst hoo
                  have f11 : ρ (.tmp 101) = .slice (some ⟨lb, lo, none⟩) n c := hd ⟨11, .data⟩ (by simp) (by rfl)
                  have f13 : ρ (.tmp 103) = .int .i64 ((m + 2 : Nat) : Int) := hd ⟨13, .data⟩ (by simp) (by rfl)
                  exact ⟨.pointer (some ⟨lb, lo + (m + 2), none⟩), x, idx_eq (k := m + 2) rfl f11 f13 (by omega), rfl, Below.refl _ _⟩
                | 15, _ =>
                  have hoo := Option.some.inj ho
                  subst hoo
                  have f14 : ρ (.tmp 104) = .pointer (some ⟨lb, lo + (m + 2), none⟩) := hd ⟨14, .data⟩ (by simp) (by rfl)
                  exact ⟨.int .i64 x2, x, by simp [execOp, f14, hc2, go_sem], rfl, Below.refl _ _⟩
                | 16, _ =>
                  have hoo := Option.some.inj ho
                  subst hoo
                  have f5 : ρ (.tmp 95) = .int .i64 x0 := hd ⟨5, .data⟩ (by simp) (by rfl)
                  have f10 : ρ (.tmp 100) = .int .i64 x1 := hd ⟨10, .data⟩ (by simp) (by rfl)
                  have f15 : ρ (.tmp 105) = .int .i64 x2 := hd ⟨15, .data⟩ (by simp) (by rfl)
                  exact ⟨.agg #[.int .i64 x0, .int .i64 x1, .int .i64 x2], x, by simp [execOp, f5, f10, f15, go_sem], rfl, Below.refl _ _⟩
                | 17, _ =>
                  have hoo := Option.some.inj ho
                  subst hoo
                  have f16 : ρ (.tmp 106) = .agg #[.int .i64 x0, .int .i64 x1, .int .i64 x2] := hd ⟨16, .data⟩ (by simp) (by rfl)
                  exact ⟨.slice (some ⟨x.heap.size, 0, none⟩) 1 1, x.alloc (.cells #[.int .i64 x0, .int .i64 x1, .int .i64 x2] 58), by simp [execOp, f16, go_sem], ⟨_, rfl, heap_alloc_new x _, fun e => by have := hI.2.2 _ e; omega⟩, below_alloc _⟩
                | 18, _ =>
                  have hoo := Option.some.inj ho
                  subst hoo
                  have f1 : ρ (.tmp 91) = (Value.slice Fa k dc) := hd ⟨1, .data⟩ (by simp) (by rfl)
                  have f17 : OwnX 58 (Value.slice Fa k dc).ownBlock [.int .i64 x0, .int .i64 x1, .int .i64 x2] (ρ (.tmp 107)) x := hd ⟨17, .data⟩ (by simp) (by rfl)
                  obtain ⟨u', w2, hr, how, hrb⟩ := ownX_append (tl := 24) Tryz.underlying24 future_info rfl (by omega) (by omega) (hJ rfl) f17 rfl (by simp [Value.oneCell']) (by omega) hI.1.size
                  exact ⟨u', w2, by simp [execOp, resolve, invoke, builtin, f1, hr, Result.andThen], how, hrb⟩
                | 19, _ =>
                  have hoo := Option.some.inj ho
                  subst hoo
                  exact ⟨.pointer (some ⟨g, 4, none⟩), x, by simp [execOp, h9, go_sem], rfl, Below.refl _ _⟩
                | j + 20, hk => omega
              case hlast =>
                intro o ho vals x hI hF
                have hoo := Option.some.inj ho
                subst hoo
                have f1 : Grew 58 w0.heap.size 3 (k + 1) ((flatT (T.futures.take k)) ++ [.int .i64 x0, .int .i64 x1, .int .i64 x2]) (vals 108) x := hF 18 (by decide)
                have f2 : vals 109 = .pointer (some ⟨g, 4, none⟩) := hF 19 (by decide)
                refine bld_store2 (.tmp 109) (.tmp 108) rfl rfl hI.2.1 f1 f2 (T.futures.take (k + 1)) (by rw [HR4.out, List.length_append, HKL.out]; rfl) (by rw [HR4.out, flatT_snoc]) ?_
                intro A' c' x' hN hN2
                have HN1 := Lib.hid hN
                have HN2 := Lib.hid (hI.1.trans hN2)
                have hr2 := HR2.out
                clear hN hN2 hI hF f1 f2
                simp only [fillA, fillL, List.contains_cons, List.contains_nil, Nat.reduceBEq, Bool.or_false, Bool.false_or, Bool.or_true, Bool.true_or, cond_true, cond_false, Nat.zero_add, Nat.reduceAdd]
                go_wp2
                go_roundw
                case rel => exact ⟨k + 1, m + 3, c', A', by omega, by go_num, by go_num, by omega, Lib.hid HR3.out, HN1, HN2⟩
                case measure => simp [intOf]; omega
            · obtain rfl : n7 = k := by omega
              have htk : T.futures.take n7 = T.futures := List.take_of_length_le (by rw [HNF.out]; exact Nat.le_refl _)
              have HB1 : Hid (Bld 4 w0.heap.size g T.period T.deadline (.slice F0 n5 D0) (.slice F1 n6 D1) (.slice Fa n7 dc) (.slice none 0 0) T.parts T.edges T.futures [] wr) := Lib.hid (by have h := HB.out; rwa [htk] at h)
              have HM1 : Hid (m = ((((([] : List Int) ++ T.parts.flatMap tripI) ++ T.edges.flatMap pairI) ++ T.futures.flatMap tripI) ++ (T.bars.take 0).flatMap barI).length) := Lib.hid (by have h := HM.out; rw [htk] at h; rw [List.take_zero, List.flatMap_nil, List.append_nil]; exact h)
              obtain ⟨F2, hF2⟩ : ∃ F, F = Fa := ⟨_, rfl⟩
              obtain ⟨D2, hD2⟩ : ∃ D, D = dc := ⟨_, rfl⟩
              rw [← hF2, ← hD2] at HB1
              clear hF2 hD2 htk HB HM
              go_wp2
              go_loopw [10, 14] (fun av i wr => ∃ (k m dc : Nat) (Fa : Option Addr) (cs : List (Value × Value)), k ≤ n8 ∧ av = .int .i64 (m : Int) ∧ i = .int .i64 (k : Int) ∧ m ≤ n ∧ Hid (m = ((((([] : List Int) ++ T.parts.flatMap tripI) ++ T.edges.flatMap pairI) ++ T.futures.flatMap tripI) ++ (T.bars.take k).flatMap barI).length) ∧ Hid (Bld 4 w0.heap.size g T.period T.deadline (.slice F0 n5 D0) (.slice F1 n6 D1) (.slice F2 n7 D2) (.slice Fa k dc) T.parts T.edges T.futures cs wr) ∧ Hid (Below w0.heap.size w0 wr) ∧ Hid (SubB w w.heap.size base cs (T.bars.take k))) (fun _ i _ => n8 - (intOf i).toNat)
              case atStart => exact ⟨0, m, 0, none, [], Nat.zero_le _, rfl, rfl, hm, HM1, HB1, HW, Lib.hid (SubB.nil _ _ _)⟩
              case round =>
                obtain ⟨k, m, dc, Fa, cs, hk, rfl, rfl, hm, HM, HB, HW, HSB⟩ := hrel
                clear HB1 HM1
                by_cases hlt : k < n8
                · obtain ⟨xs, ys, he⟩ : ∃ xs ys, T.bars[k]? = some (xs, ys) := ⟨_, _, List.getElem?_eq_getElem (by rw [HNR.out]; exact hlt)⟩
                  have HE := Lib.hid he
                  obtain ⟨r1, r2, r3, r4⟩ := rows_at (f := barI) (pre := (((([] : List Int) ++ T.parts.flatMap tripI) ++ T.edges.flatMap pairI) ++ T.futures.flatMap tripI)) (suf := ([] : List Int)) (show numsT T = (((([] : List Int) ++ T.parts.flatMap tripI) ++ T.edges.flatMap pairI) ++ T.futures.flatMap tripI) ++ (T.bars.flatMap barI ++ ([] : List Int)) by rw [HL.out]; simp only [List.append_assoc, List.append_nil, List.nil_append]) he HM.out
                  have hfl : (barI (xs, ys)).length = 2 + xs.length + ys.length := by unfold barI; simp; omega
                  rw [hfl] at r1 r2 r3
                  have hn0 : 0 < (numsT T).length := by omega
                  obtain ⟨lb, lo, hAe, hlb, hcell⟩ := HI.out hn0
                  subst hAe
                  rw [HN.out] at r2 hcell
                  have hb1 := (HBAR.out _ (List.mem_of_getElem? he)).1
                  have hb2 := (HBAR.out _ (List.mem_of_getElem? he)).2
                  obtain ⟨d, hd1⟩ : ∃ d, d = xs.length := ⟨_, rfl⟩
                  obtain ⟨e, he1⟩ : ∃ e, e = ys.length := ⟨_, rfl⟩
                  simp only at hb1 hb2
                  rw [← hd1] at hb1 r1 r2 r3
                  rw [← he1] at hb2 r1 r2 r3
                  have hsame : ∀ q : Addr, q.block < w.heap.size → wr.cell? q = w.cell? q := fun q hq => (HW.out.cell (by rw [HS0.out]; omega)).trans (HB0.out.cell hq)
                  have q0 : wr.cell? ⟨lb, lo + m, none⟩ = some (.int .i64 (d : Int)) := (hsame _ hlb).trans ((hcell m (by omega)).trans (congrArg (fun z => some (Value.int .i64 z)) ((r1 0 (by omega)).trans (by rw [hd1]; rfl))))
                  have q1 : wr.cell? ⟨lb, lo + (m + 1), none⟩ = some (.int .i64 (e : Int)) := (hsame _ hlb).trans ((hcell (m + 1) (by omega)).trans (congrArg (fun z => some (Value.int .i64 z)) ((r1 1 (by omega)).trans (by rw [he1]; rfl))))
                  have q1' : wr.cell? ⟨lb, lo + m + 1, none⟩ = some (.int .i64 (e : Int)) := by rw [Nat.add_assoc]; exact q1
                  have hss1 : SubI w w.heap.size base (.slice (some ⟨lb, if c = m + 2 then lo else lo + (m + 2), none⟩) d (c - (m + 2))) xs := by
                    rw [hd1]
                    refine sub_of HI.out HA.out (by rw [HN.out]; omega) (by rw [HN.out]; exact hnc) (fun i hi => ?_)
                    have h := r1 (2 + i) (by omega)
                    rw [← Nat.add_assoc] at h
                    rw [h]
                    unfold barI
                    rw [List.getD_eq_getElem?_getD, show 2 + i = i + 1 + 1 by omega, List.getElem?_cons_succ, List.getElem?_cons_succ, List.getElem?_append_left hi, ← List.getD_eq_getElem?_getD]
                  have hss2 : SubI w w.heap.size base (.slice (some ⟨lb, if c = m + 2 + d then lo else lo + (m + 2 + d), none⟩) e (c - (m + 2 + d))) ys := by
                    rw [he1]
                    refine sub_of HI.out HA.out (by rw [HN.out]; omega) (by rw [HN.out]; exact hnc) (fun i hi => ?_)
                    have h := r1 (2 + d + i) (by omega)
                    rw [show m + (2 + d + i) = m + 2 + d + i by omega] at h
                    rw [h]
                    unfold barI
                    rw [List.getD_eq_getElem?_getD, show 2 + d + i = d + i + 1 + 1 by omega, List.getElem?_cons_succ, List.getElem?_cons_succ, List.getElem?_append_right (by simp only; omega), show d + i - (xs, ys).1.length = i by simp only; omega, ← List.getD_eq_getElem?_getD]
                  have HSS := Lib.hid (And.intro hss1 hss2)
                  have HR2 := Lib.hid r2
                  have HR3 := Lib.hid r3
                  have HR4 := Lib.hid r4
                  have hcl := HSB.out.1
                  have hkl : (T.bars.take k).length = k := by rw [List.length_take, HNR.out]; omega
                  rw [hkl] at hcl
                  have HCL := Lib.hid hcl
                  have g1 : decide ((m : Int) < n) = true := decide_eq_true (by omega)
                  have g2 : decide ((m : Int) + 1 < n) = true := decide_eq_true (by omega)
                  have m1 : m < n := by omega
                  have m2 : m + 1 < n := by omega
                  clear he r1 r2 r3 r4 hfl hcell hkl hn0 hcl hss1 hss2 hsame hd1 he1
                  go_wp2_with fail
                  go_quiet (fail)
                  have HB2 := Lib.hid (HB.out.below (below_drewN (Below.refl _ _) nq))
                  have HW2 := Lib.hid (HW.out.trans ((below_drewN (Below.refl _ _) nq).mono HW.out.size))
                  clear q0 q1 q1' g1 g2
                  go_wp2_with fail
                  have hrow : (wr.drewN nq).ownsRow w0.heap.size 49 2 (Value.slice Fa k dc) k (flatC cs) := by have h := HB2.out.bars (by decide); rw [HCL.out] at h; exact h
                  have HROW := Lib.hid hrow
                  have hown : ∀ b, (Value.slice Fa k dc).ownBlock = some b → b < (wr.drewN nq).heap.size := fun b hb => (row_lt hrow b hb).2.1
                  have HOWN := Lib.hid hown
                  clear hrow hown
                  refine wp_region_gather' 22 20 [130, 131, 132, 133, 134, 135, 136, 137, 138, 139, 140, 141, 142, 143, 144, 145, 146, 147, 148, 149, 150, 151] (by kernel_rfl) (by kernel_rfl) (by intro d hd; simp at hd ⊢; omega) (fun x => Below w0.heap.size w0 x ∧ Bld 3 w0.heap.size g T.period T.deadline (.slice F0 n5 D0) (.slice F1 n6 D1) (.slice F2 n7 D2) (.slice Fa k dc) T.parts T.edges T.futures cs x ∧ ∀ b, (Value.slice Fa k dc).ownBlock = some b → b < x.heap.size) (fun x => x.ownsRow w0.heap.size 49 2 (Value.slice Fa k dc) k (flatC cs)) (RX 49 w0.heap.size (Value.slice Fa k dc).ownBlock) (BPhiB 49 g 5 w0.heap.size lb lo n c (m + 2) k d e (Value.slice Fa k dc) (flatC cs))
                    (fun _ _ h => .inl h) (fun x y h hr => ⟨h.1.trans (hr.below h.1.size), h.2.1.rx hr (by decide) (fun _ => by decide) (fun _ => by decide) (fun _ => by decide) (fun h => absurd rfl h), fun b hb => Nat.lt_of_lt_of_le (h.2.2 b hb) hr.size⟩) (fun _ _ h hb => own_below h hb) (fun j u x y hj h hr => bphib_rx j u x y hj h hr) (fun u x y h hb => Grew.below h hb) ⟨HW2.out.drew, HB2.out.skip.rx (t := 49) (b := w0.heap.size) (row := none) (.inl (Below.refl _ _).drew) (by decide) (fun _ => by decide) (fun _ => by decide) (fun _ => by decide) (fun h => absurd rfl h), HOWN.out⟩ (own_below HROW.out (Below.refl _ _).drew) ?hstep ?hlast
                  case hstep =>
                    intro j o hj ho ρ x hI hA hd hJ
                    have h9 : ρ (.tmp 9) = .pointer (some ⟨g, 0, none⟩) := hA.tmp 9 (by decide)
                    have h1 : ρ (.tmp 1) = .slice (some ⟨lb, lo, none⟩) n c := hA.tmp 1 (by decide)
                    have h10 : ρ (.tmp 10) = .int .i64 ((m + 2 : Nat) : Int) := hA.tmp 10 (by decide)
                    have hgF : x.cell? ⟨g, 5, none⟩ = some (Value.slice Fa k dc) := by rw [hI.2.1.cell]; rfl
                    have hr2 := HR2.out
                    have h15 : ρ (.tmp 15) = .int .i64 (d : Int) := hA.tmp 15 (by decide)
                    have h16 : ρ (.tmp 16) = .int .i64 (e : Int) := hA.tmp 16 (by decide)
                    match j, hj with
                    | 0, _ =>
                      have hoo := Option.some.inj ho
                      subst hoo
                      exact ⟨.pointer (some ⟨g, 5, none⟩), x, by simp [execOp, h9, go_sem], rfl, Below.refl _ _⟩
                    | 1, _ =>
                      have hoo := Option.some.inj ho
                      subst hoo
                      have f0 : ρ (.tmp 130) = .pointer (some ⟨g, 5, none⟩) := hd ⟨0, .data⟩ (by simp) (by rfl)
                      exact ⟨(Value.slice Fa k dc), x, by simp [execOp, f0, hgF, go_sem], rfl, Below.refl _ _⟩
                    | 2, _ =>
                      have hoo := Option.some.inj ho
                      subst hoo
                      exact ⟨.slice (some ⟨lb, lo, none⟩) n c, x, by simp [execOp, h1, go_sem], rfl, Below.refl _ _⟩
                    | 3, _ =>
                      have hoo := Option.some.inj ho
                      subst hoo
                      exact ⟨.int .i64 ((m + 2 : Nat) : Int), x, by simp [execOp, h10, go_sem], rfl, Below.refl _ _⟩
                    | 4, _ =>
                      have hoo := Option.some.inj ho
                      subst hoo
                      exact ⟨.int .i64 ((m + 2 : Nat) : Int), x, by simp [execOp, h10, go_sem], rfl, Below.refl _ _⟩
                    | 5, _ =>
                      have hoo := Option.some.inj ho
                      subst hoo
                      exact ⟨.int .i64 (d : Int), x, by simp [execOp, h15, go_sem], rfl, Below.refl _ _⟩
                    | 6, _ =>
                      have hoo := Option.some.inj ho
                      subst hoo
                      have f4 : ρ (.tmp 134) = .int .i64 ((m + 2 : Nat) : Int) := hd ⟨4, .data⟩ (by simp) (by rfl)
                      have f5 : ρ (.tmp 135) = .int .i64 (d : Int) := hd ⟨5, .data⟩ (by simp) (by rfl)
                      exact ⟨.int .i64 (((m + 2) + d : Nat) : Int), x, add_eq (a := ((m + 2 : Nat) : Int)) (b := (d : Int)) rfl f4 f5 (by omega) (by omega), rfl, Below.refl _ _⟩
                    | 7, _ =>
                      have hoo := Option.some.inj ho
                      subst hoo
                      have f2 : ρ (.tmp 132) = .slice (some ⟨lb, lo, none⟩) n c := hd ⟨2, .data⟩ (by simp) (by rfl)
                      have f3 : ρ (.tmp 133) = .int .i64 ((m + 2 : Nat) : Int) := hd ⟨3, .data⟩ (by simp) (by rfl)
                      have f6 : ρ (.tmp 136) = .int .i64 (((m + 2) + d : Nat) : Int) := hd ⟨6, .data⟩ (by simp) (by rfl)
                      exact ⟨.slice (some ⟨lb, if c = (m + 2) then lo else lo + (m + 2), none⟩) d (c - (m + 2)), x, sub_eq (i := (m + 2)) (d := d) rfl f2 f3 f6 (by omega), rfl, Below.refl _ _⟩
                    | 8, _ =>
                      have hoo := Option.some.inj ho
                      subst hoo
                      exact ⟨.slice (some ⟨lb, lo, none⟩) n c, x, by simp [execOp, h1, go_sem], rfl, Below.refl _ _⟩
                    | 9, _ =>
                      have hoo := Option.some.inj ho
                      subst hoo
                      exact ⟨.int .i64 ((m + 2 : Nat) : Int), x, by simp [execOp, h10, go_sem], rfl, Below.refl _ _⟩
                    | 10, _ =>
                      have hoo := Option.some.inj ho
                      subst hoo
                      exact ⟨.int .i64 (d : Int), x, by simp [execOp, h15, go_sem], rfl, Below.refl _ _⟩
                    | 11, _ =>
                      have hoo := Option.some.inj ho
                      subst hoo
                      have f9 : ρ (.tmp 139) = .int .i64 ((m + 2 : Nat) : Int) := hd ⟨9, .data⟩ (by simp) (by rfl)
                      have f10 : ρ (.tmp 140) = .int .i64 (d : Int) := hd ⟨10, .data⟩ (by simp) (by rfl)
                      exact ⟨.int .i64 (((m + 2) + d : Nat) : Int), x, add_eq (a := ((m + 2 : Nat) : Int)) (b := (d : Int)) rfl f9 f10 (by omega) (by omega), rfl, Below.refl _ _⟩
                    | 12, _ =>
                      have hoo := Option.some.inj ho
                      subst hoo
                      exact ⟨.int .i64 ((m + 2 : Nat) : Int), x, by simp [execOp, h10, go_sem], rfl, Below.refl _ _⟩
                    | 13, _ =>
                      have hoo := Option.some.inj ho
                      subst hoo
                      exact ⟨.int .i64 (d : Int), x, by simp [execOp, h15, go_sem], rfl, Below.refl _ _⟩
                    | 14, _ =>
                      have hoo := Option.some.inj ho
                      subst hoo
                      have f12 : ρ (.tmp 142) = .int .i64 ((m + 2 : Nat) : Int) := hd ⟨12, .data⟩ (by simp) (by rfl)
                      have f13 : ρ (.tmp 143) = .int .i64 (d : Int) := hd ⟨13, .data⟩ (by simp) (by rfl)
                      exact ⟨.int .i64 (((m + 2) + d : Nat) : Int), x, add_eq (a := ((m + 2 : Nat) : Int)) (b := (d : Int)) rfl f12 f13 (by omega) (by omega), rfl, Below.refl _ _⟩
                    | 15, _ =>
                      have hoo := Option.some.inj ho
                      subst hoo
                      exact ⟨.int .i64 (e : Int), x, by simp [execOp, h16, go_sem], rfl, Below.refl _ _⟩
                    | 16, _ =>
                      have hoo := Option.some.inj ho
                      subst hoo
                      have f14 : ρ (.tmp 144) = .int .i64 (((m + 2) + d : Nat) : Int) := hd ⟨14, .data⟩ (by simp) (by rfl)
                      have f15 : ρ (.tmp 145) = .int .i64 (e : Int) := hd ⟨15, .data⟩ (by simp) (by rfl)
                      exact ⟨.int .i64 (((m + 2) + d + e : Nat) : Int), x, add_eq (a := (((m + 2) + d : Nat) : Int)) (b := (e : Int)) rfl f14 f15 (by omega) (by omega), rfl, Below.refl _ _⟩
                    | 17, _ =>
                      have hoo := Option.some.inj ho
                      subst hoo
                      have f8 : ρ (.tmp 138) = .slice (some ⟨lb, lo, none⟩) n c := hd ⟨8, .data⟩ (by simp) (by rfl)
                      have f11 : ρ (.tmp 141) = .int .i64 (((m + 2) + d : Nat) : Int) := hd ⟨11, .data⟩ (by simp) (by rfl)
                      have f16 : ρ (.tmp 146) = .int .i64 (((m + 2) + d + e : Nat) : Int) := hd ⟨16, .data⟩ (by simp) (by rfl)
                      exact ⟨.slice (some ⟨lb, if c = (m + 2) + d then lo else lo + ((m + 2) + d), none⟩) e (c - ((m + 2) + d)), x, sub_eq (i := (m + 2) + d) (d := e) rfl f8 f11 f16 (by omega), rfl, Below.refl _ _⟩
                    | 18, _ =>
                      have hoo := Option.some.inj ho
                      subst hoo
                      have f7 : ρ (.tmp 137) = .slice (some ⟨lb, if c = (m + 2) then lo else lo + (m + 2), none⟩) d (c - (m + 2)) := hd ⟨7, .data⟩ (by simp) (by rfl)
                      have f17 : ρ (.tmp 147) = .slice (some ⟨lb, if c = (m + 2) + d then lo else lo + ((m + 2) + d), none⟩) e (c - ((m + 2) + d)) := hd ⟨17, .data⟩ (by simp) (by rfl)
                      exact ⟨.agg #[.slice (some ⟨lb, if c = (m + 2) then lo else lo + (m + 2), none⟩) d (c - (m + 2)), .slice (some ⟨lb, if c = (m + 2) + d then lo else lo + ((m + 2) + d), none⟩) e (c - ((m + 2) + d))], x, bar_eq rfl f7 f17, rfl, Below.refl _ _⟩
                    | 19, _ =>
                      have hoo := Option.some.inj ho
                      subst hoo
                      have f18 : ρ (.tmp 148) = .agg #[.slice (some ⟨lb, if c = (m + 2) then lo else lo + (m + 2), none⟩) d (c - (m + 2)), .slice (some ⟨lb, if c = (m + 2) + d then lo else lo + ((m + 2) + d), none⟩) e (c - ((m + 2) + d))] := hd ⟨18, .data⟩ (by simp) (by rfl)
                      exact ⟨.slice (some ⟨x.heap.size, 0, none⟩) 1 1, x.alloc (.cells #[.slice (some ⟨lb, if c = (m + 2) then lo else lo + (m + 2), none⟩) d (c - (m + 2)), .slice (some ⟨lb, if c = (m + 2) + d then lo else lo + ((m + 2) + d), none⟩) e (c - ((m + 2) + d))] 49), bars_eq rfl f18, ⟨_, rfl, heap_alloc_new x _, fun e => by have := hI.2.2 _ e; omega⟩, below_alloc _⟩
                    | 20, _ =>
                      have hoo := Option.some.inj ho
                      subst hoo
                      have f1 : ρ (.tmp 131) = (Value.slice Fa k dc) := hd ⟨1, .data⟩ (by simp) (by rfl)
                      have f19 : OwnX 49 (Value.slice Fa k dc).ownBlock [.slice (some ⟨lb, if c = (m + 2) then lo else lo + (m + 2), none⟩) d (c - (m + 2)), .slice (some ⟨lb, if c = (m + 2) + d then lo else lo + ((m + 2) + d), none⟩) e (c - ((m + 2) + d))] (ρ (.tmp 149)) x := hd ⟨19, .data⟩ (by simp) (by rfl)
                      obtain ⟨u', w2, hr, how, hrb⟩ := ownX_append (tl := 25) Tryz.underlying25 bar_info rfl (by omega) (by omega) (hJ rfl) f19 rfl (by simp [Value.oneCell']) (by omega) hI.1.size
                      exact ⟨u', w2, by simp [execOp, resolve, invoke, builtin, f1, hr, Result.andThen], how, hrb⟩
                    | 21, _ =>
                      have hoo := Option.some.inj ho
                      subst hoo
                      exact ⟨.pointer (some ⟨g, 5, none⟩), x, by simp [execOp, h9, go_sem], rfl, Below.refl _ _⟩
                    | j + 22, hk => omega
                  case hlast =>
                    intro o ho vals x hI hF
                    have hoo := Option.some.inj ho
                    subst hoo
                    have f1 : Grew 49 w0.heap.size 2 (k + 1) ((flatC cs) ++ [.slice (some ⟨lb, if c = (m + 2) then lo else lo + (m + 2), none⟩) d (c - (m + 2)), .slice (some ⟨lb, if c = (m + 2) + d then lo else lo + ((m + 2) + d), none⟩) e (c - ((m + 2) + d))]) (vals 150) x := hF 20 (by decide)
                    have f2 : vals 151 = .pointer (some ⟨g, 5, none⟩) := hF 21 (by decide)
                    refine bld_store3 (.tmp 151) (.tmp 150) rfl rfl hI.2.1 f1 f2 (cs ++ [(.slice (some ⟨lb, if c = (m + 2) then lo else lo + (m + 2), none⟩) d (c - (m + 2)), .slice (some ⟨lb, if c = (m + 2) + d then lo else lo + ((m + 2) + d), none⟩) e (c - ((m + 2) + d)))]) (by rw [List.length_append, HCL.out]; rfl) (by rw [flatC_add]; rfl) ?_
                    intro A' c' x' hN hN2
                    have HN1 := Lib.hid hN
                    have HN2 := Lib.hid (hI.1.trans hN2)
                    have hr2 := HR2.out
                    clear hN hN2 hI hF f1 f2
                    simp only [fillA, fillL, List.contains_cons, List.contains_nil, Nat.reduceBEq, Bool.or_false, Bool.false_or, Bool.or_true, Bool.true_or, cond_true, cond_false, Nat.zero_add, Nat.reduceAdd]
                    go_wp2
                    go_roundw
                    case rel => exact ⟨k + 1, m + (2 + d + e), c', A', cs ++ [(.slice (some ⟨lb, if c = (m + 2) then lo else lo + (m + 2), none⟩) d (c - (m + 2)), .slice (some ⟨lb, if c = (m + 2) + d then lo else lo + ((m + 2) + d), none⟩) e (c - ((m + 2) + d)))], by omega, by go_num, by go_num, by omega, Lib.hid HR3.out, HN1, HN2, Lib.hid (by rw [HR4.out]; exact HSB.out.snoc HSS.out.1 HSS.out.2)⟩
                    case measure => simp [intOf]; omega
                · obtain rfl : n8 = k := by omega
                  have htk : T.bars.take n8 = T.bars := List.take_of_length_le (by rw [HNR.out]; exact Nat.le_refl _)
                  have HS1 : Hid (SubB w w.heap.size base cs T.bars) := Lib.hid (by have h := HSB.out; rwa [htk] at h)
                  have hrow := HB.out.row
                  have r0 := cell_of_row wr g 0 _ _ _ hrow
                  have r1 := cell_of_row wr g 1 _ _ _ hrow
                  have r2 := cell_of_row wr g 2 _ _ _ hrow
                  have r3 := cell_of_row wr g 3 _ _ _ hrow
                  have r4 := cell_of_row wr g 4 _ _ _ hrow
                  have r5 := cell_of_row wr g 5 _ _ _ hrow
                  simp at r0 r1 r2 r3 r4 r5
                  have hres := (HW.out.block w.heap.size (by rw [HS0.out]; omega)).trans HR0.out
                  have y0 := cell_of_row wr w.heap.size 0 _ _ _ hres
                  have y1 := cell_of_row wr w.heap.size 1 _ _ _ hres
                  have y2 := cell_of_row wr w.heap.size 2 _ _ _ hres
                  have y3 := cell_of_row wr w.heap.size 3 _ _ _ hres
                  have y4 := cell_of_row wr w.heap.size 4 _ _ _ hres
                  have y5 := cell_of_row wr w.heap.size 5 _ _ _ hres
                  simp at y0 y1 y2 y3 y4 y5
                  have z0 := frozen_of_row wr w.heap.size 0 _ _ hres
                  have z1 := frozen_of_row wr w.heap.size 1 _ _ hres
                  have z2 := frozen_of_row wr w.heap.size 2 _ _ hres
                  have z3 := frozen_of_row wr w.heap.size 3 _ _ hres
                  have z4 := frozen_of_row wr w.heap.size 4 _ _ hres
                  have z5 := frozen_of_row wr w.heap.size 5 _ _ hres
                  have HRW := Lib.hid hres
                  clear hres hrow htk
                  go_wp2
                  obtain ⟨x2, hx2, e1, e2, e3⟩ := six_cells HRW.out (.int .i64 T.period) (.int .i64 T.deadline) (.slice F0 n5 D0) (.slice F1 n6 D1) (.slice F2 n7 D2) (.slice Fa n8 dc)
                  rw [← hx2]
                  have k0 := cell_of_row x2 w.heap.size 0 _ _ _ e1
                  have k1 := cell_of_row x2 w.heap.size 1 _ _ _ e1
                  have k2 := cell_of_row x2 w.heap.size 2 _ _ _ e1
                  have k3 := cell_of_row x2 w.heap.size 3 _ _ _ e1
                  have k4 := cell_of_row x2 w.heap.size 4 _ _ _ e1
                  have k5 := cell_of_row x2 w.heap.size 5 _ _ _ e1
                  simp at k0 k1 k2 k3 k4 k5
                  have hbx : Below w.heap.size w x2 := HB0.out.trans ((HW.out.mono (by rw [HS0.out]; omega)).trans (e3 _ (Nat.le_refl _)))
                  have hX := Bld.task (b := base) (HB.out.far (fun k hk => e2 k (by rw [HS0.out] at hk; omega))) HS1.out hbx (by have := HBB.out; rw [HS0.out]; omega)
                  clear hx2
                  refine bodyPost_ret (v := .agg #[.int .i64 T.period, .int .i64 T.deadline, .slice F0 n5 D0, .slice F1 n6 D1, .slice F2 n7 D2, .slice Fa n8 dc]) ?_ rfl ⟨⟨F0, n5, D0, F1, n6, D1, F2, n7, D2, Fa, n8, dc⟩, rfl, hX.1, hX.2.1, hX.2.2.1, hX.2.2.2, hbx⟩
                  simp [results, Tryz.results31, go_sem, k0, k1, k2, k3, k4, k5]
end Go.Proofs.YtlimcimioeepaaaGreatDoor
