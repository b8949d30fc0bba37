/- Words for memory in the seat YtfahabphncmbfaaGreatDoor: a list of integers that is handed out; natural numbers as integers.
   Words for memory in the seat YtfahabphncmbfaaGreatDoor: a list of barriers of the call's own, that grows; what stays beside it.
   The contract of Own of trefoillaw05 in the seat YtfahabphncmbfaaGreatDoor (printed by desc/mk_own5c.py).
   The contract of Own of trefoillaw05 in the seat YtfahabphncmbfaaGreatDoor (printed by desc/mk_own5d.py).
   No statement is proved here. -/
import Derived.Test.YtfahabphncmbfaaGreatDoorZM2
import Derived.Test.YtfahabphncmbfaaGreatDoorZM7
import Derived.Deep.AppendLies
import Derived.Laws.ResultCell
set_option linter.unusedSimpArgs false
set_option linter.unusedVariables false
namespace Go.Proofs.YtfahabphncmbfaaGreatDoor
open Go.RowKit

/-- A new list of integers, handed out. -/
def GotInts (zs : List Int) (w : World) (e : Ending) (w' : World) : Prop :=
  ∃ A c, e = .returned (.slice A zs.length c) ∧ Ints w' w'.heap.size A zs ∧ Below w.heap.size w w'

theorem OwnI.down {w : World} {b b' : Nat} {v : Value} {zs : List Int} (h : OwnI w b v zs) (hb : b' ≤ b) : OwnI w b' v zs := by
  refine ⟨h.1, ?_⟩
  rcases h.2 with hn | ⟨g, cap, cur, rfl, hg, rest⟩
  · exact .inl hn
  · exact .inr ⟨g, cap, cur, rfl, by omega, rest⟩
theorem OwnI.ints {w : World} {b : Nat} {A : Option Addr} {n c : Nat} {zs : List Int} (h : OwnI w b (.slice A n c) zs) : Ints w w.heap.size A zs := by
  obtain ⟨A', c', e1, hI⟩ := h.slice
  injection e1 with e2 e3 e4
  rw [e2]
  exact hI
/-- A new list of integers of the caller's own, handed out. -/
def GotOwn (zs : List Int) (w : World) (e : Ending) (w' : World) : Prop :=
  ∃ A c, e = .returned (.slice A zs.length c) ∧ OwnI w' w.heap.size (.slice A zs.length c) zs ∧ Below w.heap.size w w'
theorem GotOwn.ints {zs : List Int} {w : World} {e : Ending} {w' : World} (h : GotOwn zs w e w') : GotInts zs w e w' := by
  obtain ⟨A, c, he, hO, b⟩ := h
  obtain ⟨A', c', e1, hI⟩ := hO.slice
  injection e1 with e2 e3 e4
  subst e2
  exact ⟨A, c, he, hI, b⟩
theorem ownI_first (w : World) (o : Obj) : OwnI ((w.alloc o).alloc (.cells #[] 3)) (w.heap.size + 1) (.slice (some ⟨w.heap.size + 1, 0, none⟩) 0 0) [] := by
  have h := OwnI.new (w.alloc o) (w.heap.size + 1) (by simp)
  rwa [show (w.alloc o).heap.size = w.heap.size + 1 by simp] at h
def nums (l : List Nat) : List Int := l.map Int.ofNat
theorem mem_nums {l : List Nat} {a : Nat} : (a : Int) ∈ nums l ↔ a ∈ l := by
  unfold nums
  constructor
  · intro h
    obtain ⟨b, hb, e⟩ := List.mem_map.mp h
    obtain rfl : b = a := Int.ofNat_inj.mp e
    exact hb
  · intro h
    exact List.mem_map.mpr ⟨a, h, rfl⟩
theorem nums_length (l : List Nat) : (nums l).length = l.length := by unfold nums; rw [List.length_map]
theorem nums_snoc (l : List Nat) (a : Nat) : nums (l ++ [a]) = nums l ++ [(a : Int)] := by unfold nums; rw [List.map_append]; rfl
end Go.Proofs.YtfahabphncmbfaaGreatDoor
set_option linter.unusedVariables false
namespace Go.Proofs.YtfahabphncmbfaaGreatDoor
open Go.RowKit

/-- New blocks, or one row of barriers (from base on) that grows. -/
def RB (base : Nat) (row : Option Nat) (w w' : World) : Prop :=
  Below w.heap.size w w' ∨ (w.grownBy w' row ∧ ∀ b, row = some b → base ≤ b ∧ ∃ cs fr, w.heap[b]? = some (.cells cs 122 fr))
theorem RB.size {base : Nat} {row : Option Nat} {w w' : World} (h : RB base row w w') : w.heap.size ≤ w'.heap.size := by
  rcases h with h | ⟨h, _⟩
  · exact h.size
  · exact h.size
theorem RB.heap {base : Nat} {row : Option Nat} {w w' : World} (h : RB base row w w') {k : Nat} {cs : Array Value} {t : TypeId} {fr : Nat × Nat} (hk : w.heap[k]? = some (.cells cs t fr)) (ht : t ≠ 122) : w'.heap[k]? = some (.cells cs t fr) := by
  have hlt : k < w.heap.size := (Array.getElem?_eq_some_iff.1 hk).1
  rcases h with h | ⟨h, h2⟩
  · rw [h.block k hlt]; exact hk
  · rw [h.block k hlt (fun e => by
      obtain ⟨_, cs', fr', h3⟩ := h2 k e.symm
      rw [hk] at h3
      injection h3 with h3
      injection h3 with _ h4 _
      exact ht h4)]
    exact hk
theorem RB.own {base base' : Nat} {row : Option Nat} {w w' : World} (h : RB base row w w') {t : TypeId} {s n : Nat} {v : Value} {xs : List Value} (ho : w.ownsRow base' t s v n xs) (ht : t ≠ 122) : w'.ownsRow base' t s v n xs := by
  refine ⟨ho.1, ?_⟩
  rcases ho.2 with hn | ⟨g, cap, cur, rfl, hg, hgg, rest⟩
  · exact .inl hn
  · exact .inr ⟨g, cap, cur, rfl, hg, h.heap hgg ht, rest⟩
theorem RB.below {base : Nat} {row : Option Nat} {w w' : World} (h : RB base row w w') (hb : base ≤ w.heap.size) : Below base w w' := by
  rcases h with h | ⟨h, h2⟩
  · exact h.mono hb
  · refine ⟨h.os, h.tape, h.output, h.size, fun k hk => h.block k (by omega) (fun e => ?_)⟩
    have := (h2 k e.symm).1
    omega
/-- A list of barriers of the call's own (from base on); their lists too. -/
def OwnB (w : World) (base : Nat) (v : Value) (bs : List (List Int × List Int)) : Prop :=
  ∃ cs : List (Value × Value), cs.length = bs.length ∧ w.ownsRow base 122 2 v bs.length (cs.flatMap fun c => [c.1, c.2]) ∧ ∀ (k : Nat) (c : Value × Value) (b : List Int × List Int), cs[k]? = some c → bs[k]? = some b → OwnI w base c.1 b.1 ∧ OwnI w base c.2 b.2
theorem OwnB.below {w w' : World} {base : Nat} {v : Value} {bs : List (List Int × List Int)} (h : OwnB w base v bs) (hb : Below w.heap.size w w') : OwnB w' base v bs := by
  obtain ⟨cs, h1, h2, h3⟩ := h
  exact ⟨cs, h1, own_below h2 hb, fun k c b hc hb' => ⟨(h3 k c b hc hb').1.below hb, (h3 k c b hc hb').2.below hb⟩⟩
theorem OwnB.less {w : World} {base base' : Nat} {v : Value} {bs : List (List Int × List Int)} (h : OwnB w base v bs) (hb : base' ≤ base) : OwnB w base' v bs := by
  obtain ⟨cs, h1, h2, h3⟩ := h
  exact ⟨cs, h1, own_less h2 hb, fun k c b hc hb' => ⟨own_less (h3 k c b hc hb').1 hb, own_less (h3 k c b hc hb').2 hb⟩⟩
theorem OwnB.other {w w' : World} {base g : Nat} {t : TypeId} {v : Value} {bs : List (List Int × List Int)} {cs : Array Value} (h : OwnB w base v bs) (hg : w.heap[g]? = some (.cells cs t (0, 0))) (h1 : 122 ≠ t) (h2 : 3 ≠ t) (hk : ∀ k, k ≠ g → w'.heap[k]? = w.heap[k]?) : OwnB w' base v bs := by
  obtain ⟨cs', q1, q2, q3⟩ := h
  exact ⟨cs', q1, other_own q2 hg h1 hk, fun k c b hc hb' => ⟨other_own (q3 k c b hc hb').1 hg h2 hk, other_own (q3 k c b hc hb').2 hg h2 hk⟩⟩
theorem OwnB.nil (w : World) (base : Nat) : OwnB w base (.slice none 0 0) [] := ⟨[], rfl, ⟨rfl, .inl ⟨rfl, rfl⟩⟩, fun k c b hc => by simp at hc⟩
theorem OwnB.lt {w : World} {base : Nat} {v : Value} {bs : List (List Int × List Int)} (h : OwnB w base v bs) : ∀ b, v.ownBlock = some b → base ≤ b ∧ b < w.heap.size ∧ ∃ cs fr, w.heap[b]? = some (.cells cs 122 fr) := by
  intro b hb
  obtain ⟨cs, _, h2, _⟩ := h
  rcases h2.2 with ⟨rfl, _⟩ | ⟨g, cap, cur, rfl, hg, hgg, _⟩
  · simp [Value.ownBlock] at hb
  · obtain rfl : g = b := by simpa [Value.ownBlock] using hb
    exact ⟨hg, (Array.getElem?_eq_some_iff.1 hgg).1, _, _, hgg⟩
theorem bar_info : (Tryz.prog.info? 122).map (fun i => (i.zero, i.size, i.bytes)) = some (some (.agg #[.slice none 0 0, .slice none 0 0]), 2, 48) := by kernel_rfl
/-- A barrier of the call's own, in a new block. -/
def OwnElem (base : Nat) (row : Option Nat) (xs ys : List Int) (v : Value) (w : World) : Prop :=
  ∃ h v1 v2, v = .slice (some ⟨h, 0, none⟩) 1 1 ∧ w.heap[h]? = some (.cells #[v1, v2] 122 (0, 0)) ∧ row ≠ some h ∧ OwnI w base v1 xs ∧ OwnI w base v2 ys
theorem OwnElem.rb {base : Nat} {row : Option Nat} {xs ys : List Int} {v : Value} {w w' : World} (h : OwnElem base row xs ys v w) (hr : RB base row w w') : OwnElem base row xs ys v w' := by
  obtain ⟨k, v1, v2, e, hk, hne, h1, h2⟩ := h
  have hlt : k < w.heap.size := (Array.getElem?_eq_some_iff.1 hk).1
  refine ⟨k, v1, v2, e, ?_, hne, hr.own h1 (by decide), hr.own h2 (by decide)⟩
  rcases hr with hr | ⟨hr, _⟩
  · rw [hr.block k hlt]; exact hk
  · rw [hr.block k hlt (fun e => hne e.symm)]; exact hk
theorem ownI_one {w : World} {base : Nat} {v : Value} {xs : List Int} (h : OwnI w base v xs) : v.oneCell' = true := by
  obtain ⟨A, c, rfl, _⟩ := h.slice
  rfl
/-- The append of a barrier. -/
theorem ownB_append {w : World} {base : Nat} {u v : Value} {bs : List (List Int × List Int)} {xs ys : List Int} (hB : OwnB w base u bs) (hE : OwnElem base u.ownBlock xs ys v w) (hl : bs.length ≤ 1000) (hb : base ≤ w.heap.size) :
    ∃ v' w', (Builtin.append_ #[62, 62] 62 #[u, v]).run Tryz.prog w = .ok v' w' ∧ OwnB w' base v' (bs ++ [(xs, ys)]) ∧ RB base u.ownBlock w w' := by
  obtain ⟨h, v1, v2, rfl, hh, hne, q1, q2⟩ := hE
  obtain ⟨i0, hi0, hz0, hz1, hz2⟩ := info_parts5 bar_info
  have hlt := hB.lt
  obtain ⟨cs, hc1, hc2, hc3⟩ := hB
  obtain ⟨g, cap, w', hr, how, hg, hat, hgl⟩ := run_append_lies (P := Tryz.prog) w 62 62 base 122 i0 (.agg #[.slice none 0 0, .slice none 0 0]) 2 48 Tryz.underlying62 hi0 hz0 hz1 hz2 rfl (by omega) u bs.length (cs.flatMap fun c => [c.1, c.2]) hc2
    ⟨h, 0, none⟩ 1 1 [v1, v2] rfl (World.news_of_block hh) (fun x hx => by
      rcases (by simpa using hx : x = v1 ∨ x = v2) with rfl | rfl
      · exact ownI_one q1
      · exact ownI_one q2) (by omega) (by unfold maxLen; omega) (by omega) hb _ rfl
  have hRB : RB base u.ownBlock w w' := .inr ⟨hg, fun b hb' => ⟨(hlt b hb').1, (hlt b hb').2.2⟩⟩
  refine ⟨_, w', hr, ⟨cs ++ [(v1, v2)], by simp [hc1], ?_, fun k c b hc hb' => ?_⟩, hRB⟩
  · rw [List.flatMap_append, List.length_append]
    exact how
  · rcases Nat.lt_or_ge k cs.length with hk | hk
    · rw [List.getElem?_append_left hk] at hc
      rw [List.getElem?_append_left (by omega)] at hb'
      have := hc3 k c b hc hb'
      exact ⟨hRB.own this.1 (by decide), hRB.own this.2 (by decide)⟩
    · rw [List.getElem?_append_right hk] at hc
      rw [List.getElem?_append_right (by omega)] at hb'
      have hk0 : k - cs.length = 0 := by
        have := (List.getElem?_eq_some_iff.1 hc).1
        simp at this
        omega
      rw [hk0] at hc
      rw [show k - bs.length = 0 by omega] at hb'
      obtain rfl : (v1, v2) = c := by simpa using hc
      obtain rfl : (xs, ys) = b := by simpa using hb'
      exact ⟨hRB.own q1 (by decide), hRB.own q2 (by decide)⟩
end Go.Proofs.YtfahabphncmbfaaGreatDoor
set_option linter.unusedVariables false
namespace Go.Proofs.YtfahabphncmbfaaGreatDoor
open Go.RowKit

/-- A task in a variable of the call's own; its three plain lists are its own. -/
structure OutR (base : Nat) (p q : Int) (T : Task) (g : Nat) (u1 u2 u3 u4 : Value) (w : World) : Prop where
  row : w.heap[g]? = some (.cells #[.int .i64 p, .int .i64 q, u1, u2, u3, u4] 64 (0, 0))
  parts : OwnT 118 w base u1 T.parts
  edges : OwnE w base u2 T.edges
  futures : OwnT 220 w base u3 T.futures
  le : base ≤ g
  lt : ∀ b, u4.ownBlock = some b → b < w.heap.size
theorem OutR.rb {base : Nat} {p q : Int} {T : Task} {g : Nat} {u1 u2 u3 u4 : Value} {w w' : World} (h : OutR base p q T g u1 u2 u3 u4 w) (hr : RB base u4.ownBlock w w') : OutR base p q T g u1 u2 u3 u4 w' :=
  ⟨hr.heap h.row (by decide), hr.own h.parts (by decide), hr.own h.edges (by decide), hr.own h.futures (by decide), h.le, fun b hb => Nat.lt_of_lt_of_le (h.lt b hb) hr.size⟩
def OwnPair (base : Nat) (xs ys : List Int) (v : Value) (w : World) : Prop := ∃ v1 v2, v = .agg #[v1, v2] ∧ OwnI w base v1 xs ∧ OwnI w base v2 ys
theorem OwnPair.rb {base : Nat} {row : Option Nat} {xs ys : List Int} {v : Value} {w w' : World} (h : OwnPair base xs ys v w) (hr : RB base row w w') : OwnPair base xs ys v w' := by
  obtain ⟨v1, v2, e, h1, h2⟩ := h
  exact ⟨v1, v2, e, hr.own h1 (by decide), hr.own h2 (by decide)⟩
theorem NewRow.rb {base : Nat} {row : Option Nat} {v : Value} {w w' : World} (h : NewRow 3 w base v) (hr : RB base row w w') : NewRow 3 w' base v := by
  obtain ⟨g, e, hg, hl⟩ := h
  exact ⟨g, e, hr.heap hg (by decide), hl⟩
/-- What the operations of Own's second region have yielded. -/
def OwnG (g b base : Nat) (u4 : Value) (R : Option Addr) (nr rc bk off j : Nat) (A1 : Option Addr) (n1 c1 : Nat) (A2 : Option Addr) (n2 c2 : Nat) (xs ys : List Int) (bs : List (List Int × List Int)) : Nat → Value → World → Prop
  | 0, v, _ => v = .pointer (some ⟨g, 5, none⟩)
  | 1, v, _ => v = u4
  | 2, v, w => NewRow 3 w base v
  | 3, v, _ => v = .pointer (some ⟨b, 5, none⟩)
  | 4, v, _ => v = .slice R nr rc
  | 5, v, _ => v = .int .i64 j
  | 6, v, _ => v = .pointer (some ⟨bk, off + j * 2, none⟩)
  | 7, v, _ => v = .pointer (some ⟨bk, off + j * 2, none⟩)
  | 8, v, _ => v = .slice A1 n1 c1
  | 9, v, w => OwnI w base v xs
  | 10, v, w => NewRow 3 w base v
  | 11, v, _ => v = .pointer (some ⟨b, 5, none⟩)
  | 12, v, _ => v = .slice R nr rc
  | 13, v, _ => v = .int .i64 j
  | 14, v, _ => v = .pointer (some ⟨bk, off + j * 2, none⟩)
  | 15, v, _ => v = .pointer (some ⟨bk, off + j * 2 + 1, none⟩)
  | 16, v, _ => v = .slice A2 n2 c2
  | 17, v, w => OwnI w base v ys
  | 18, v, w => OwnPair base xs ys v w
  | 19, v, w => OwnElem base u4.ownBlock xs ys v w
  | 20, v, w => OwnB w base v (bs ++ [(xs, ys)])
  | 21, v, _ => v = .pointer (some ⟨g, 5, none⟩)
  | _, _, _ => True
section
variable {g b base : Nat} {u4 : Value} {R : Option Addr} {nr rc bk off j : Nat} {A1 : Option Addr} {n1 c1 : Nat} {A2 : Option Addr} {n2 c2 : Nat} {xs ys : List Int} {bs : List (List Int × List Int)}
theorem ownG_rb : ∀ (k : Nat) (v : Value) (w w' : World), k ≠ 20 → OwnG g b base u4 R nr rc bk off j A1 n1 c1 A2 n2 c2 xs ys bs k v w → RB base u4.ownBlock w w' → OwnG g b base u4 R nr rc bk off j A1 n1 c1 A2 n2 c2 xs ys bs k v w'
  | 0, _, _, _, _, h, _ | 1, _, _, _, _, h, _ | 3, _, _, _, _, h, _ | 4, _, _, _, _, h, _ | 5, _, _, _, _, h, _ | 6, _, _, _, _, h, _ | 7, _, _, _, _, h, _ | 8, _, _, _, _, h, _ | 11, _, _, _, _, h, _ | 12, _, _, _, _, h, _ | 13, _, _, _, _, h, _ | 14, _, _, _, _, h, _ | 15, _, _, _, _, h, _ | 16, _, _, _, _, h, _ | 21, _, _, _, _, h, _ => h
  | 2, _, _, _, _, h, hr => NewRow.rb h hr
  | 10, _, _, _, _, h, hr => NewRow.rb h hr
  | 9, _, _, _, _, h, hr => RB.own hr h (by decide)
  | 17, _, _, _, _, h, hr => RB.own hr h (by decide)
  | 18, _, _, _, _, h, hr => OwnPair.rb h hr
  | 19, _, _, _, _, h, hr => OwnElem.rb h hr
  | 20, _, _, _, hne, _, _ => absurd rfl hne
  | _ + 22, _, _, _, _, _, _ => trivial
end
set_option maxHeartbeats 1000000 in
theorem own_last2 {o : Oper} {a : Act} {x : World} {base : Nat} {p q : Int} {T : Task} {g : Nat} {u1 u2 u3 u4 : Value} {bs : List (List Int × List Int)} {K : Act → World → Prop} {Q : Exit → Act → World → Prop} (s y : Operand) (hop : o.op = .store 62 s y) (hdst : o.dst = none)
    (hO : OutR base p q T g u1 u2 u3 u4 x) (f20 : OwnB x base (a.eval y) bs) (f21 : a.eval s = .pointer (some ⟨g, 5, none⟩)) (hK : ∀ u x', a.eval y = u → OutR base p q T g u1 u2 u3 u x' → OwnB x' base u bs → Below base x x' → K a x') : o.wp Tryz.prog a x K Q := by
  have hg := hO.row
  have d5 := cell_of_row x g 5 _ _ _ hg
  have z5 := frozen_of_row x g 5 _ _ hg
  simp at d5
  have hlt : g < x.heap.size := (Array.getElem?_eq_some_iff.1 hg).1
  have hBl := f20.lt
  obtain ⟨cs, hc1, hc2, hc3⟩ := f20
  obtain ⟨A, c, e⟩ : ∃ A c, a.eval y = .slice A bs.length c := by
    rcases hc2.2 with ⟨h1, h2⟩ | ⟨g', cap, cur, h1, _⟩
    · exact ⟨none, 0, by rw [h1, h2]⟩
    · exact ⟨_, _, h1⟩
  obtain ⟨x', hx'⟩ : ∃ x', x' = x.setCell ⟨g, 5, none⟩ (.slice A bs.length c) := ⟨_, rfl⟩
  have hr : (execOp a.eval o).run Tryz.prog x = .ok .skip x' := by
    rw [hx']
    simp only [execOp, hop]
    rw [e, f21]
    simp [go_sem, d5, z5]
  have h6 := heap_setCell_same x g 5 _ _ (.slice A bs.length c) hg
  rw [← hx'] at h6
  have ho : ∀ k, k ≠ g → x'.heap[k]? = x.heap[k]? := fun k hk => by rw [hx', heap_setCell_other _ _ _ _ hk]
  have hb : Below base x x' := by rw [hx']; exact (Below.refl base x).setCell hO.le _
  unfold Oper.wp
  rw [hr, Oper.upon_skip, hdst]
  rw [e] at hc2 hBl
  refine hK _ x' e ⟨h6, other_own hO.parts hg (by decide) ho, other_own hO.edges hg (by decide) ho, other_own hO.futures hg (by decide) ho, hO.le, fun b' hb' => ?_⟩ ⟨cs, hc1, other_own hc2 hg (by decide) ho, fun k c' b' h1 h2 => ⟨other_own (hc3 k c' b' h1 h2).1 hg (by decide) ho, other_own (hc3 k c' b' h1 h2).2 hg (by decide) ho⟩⟩ hb
  exact Nat.lt_of_lt_of_le (hBl b' hb').2.1 hb.size
end Go.Proofs.YtfahabphncmbfaaGreatDoor
set_option linter.unusedVariables false
namespace Go.Proofs.YtfahabphncmbfaaGreatDoor
open Go.RowKit

/-- A task handed out, in memory of the caller's own. -/
def GotD (p q : Int) (T : Task) (w : World) (e : Ending) (w' : World) : Prop :=
  ∃ u1 u2 u3 u4, e = .returned (.agg #[.int .i64 p, .int .i64 q, u1, u2, u3, u4]) ∧ OwnT 118 w' w.heap.size u1 T.parts ∧ OwnE w' w.heap.size u2 T.edges ∧ OwnT 220 w' w.heap.size u3 T.futures ∧ OwnB w' w.heap.size u4 T.bars ∧ Below w.heap.size w w'
set_option maxRecDepth 100000 in
set_option maxHeartbeats 8000000 in
theorem down_any (s : Sh) (T : Task) (w : World) (hF : FewT T) (hT : IsT w w.heap.size s T) :
    Calls Tryz.prog 31 #[s.arg T.period T.deadline] w (GotD T.period T.deadline T w) := by
  obtain ⟨P, np, pc, E, ne, ec, F, nf, fc, R, nr, rc⟩ := s
  have HT := Lib.hid hT
  obtain ⟨i0, hi0, hz0, hz1, hz2⟩ := info_parts5 part_info
  obtain ⟨j0, hj0, hy0, hy1, hy2⟩ := info_parts5 edge_cell_info
  obtain ⟨k0, hk0, hx0, hx1, hx2⟩ := info_parts5 future_info
  have hlp : np ≤ 400 := by have := hF.np; rwa [hT.hp] at this
  have hle : ne ≤ 400 := by have := hF.ne; rwa [hT.he] at this
  have hlf : nf ≤ 400 := by have := hF.nf; rwa [hT.hf] at this
  have HBL := Lib.hid hF.bars
  have HNR := Lib.hid (show nr ≤ 400 by have := hF.nr; rwa [hT.hr] at this)
  simp only [Sh.arg]
  go_enter Tryz.func31, Tryz.ntmps31
  go_wp2_with fail

  obtain ⟨wA, hwA⟩ : ∃ wA, wA = (w.alloc (.cells #[.int .i64 T.period, .int .i64 T.deadline, .slice P np pc, .slice E ne ec, .slice F nf fc, .slice R nr rc] 64)).alloc (.cells #[.int .i64 0, .int .i64 0, .slice none 0 0, .slice none 0 0, .slice none 0 0, .slice none 0 0] 64) := ⟨_, rfl⟩
  have hsA : wA.heap.size = w.heap.size + 2 := by rw [hwA]; simp
  have hbA : Below w.heap.size w wA := by rw [hwA]; exact (below_alloc _).alloc (by simp) _
  have hcA : ∀ i v, (#[Value.int .i64 T.period, .int .i64 T.deadline, .slice P np pc, .slice E ne ec, .slice F nf fc, .slice R nr rc] : Array Value)[i]? = some v → wA.cell? ⟨w.heap.size, i, none⟩ = some v := fun i v hv => by
    rw [hwA]
    refine ((below_alloc (w := w.alloc (.cells #[.int .i64 T.period, .int .i64 T.deadline, .slice P np pc, .slice E ne ec, .slice F nf fc, .slice R nr rc] 64)) (.cells #[.int .i64 0, .int .i64 0, .slice none 0 0, .slice none 0 0, .slice none 0 0, .slice none 0 0] 64)).cell (by show w.heap.size < _; simp)).trans ?_
    rw [World.cell?_alloc_at _ _ _ _ rfl]
    exact hv
  rw [← hwA]
  refine wp_region_gather' 18 100 [5, 6, 7, 8, 9, 10, 11, 12, 13, 14, 15, 16, 17, 18, 19, 20, 21, 3] (by kernel_rfl) (by kernel_rfl) (by intro d hd; simp at hd ⊢; omega) (fun x => Below wA.heap.size wA x) (fun _ => True) (fun x y => Below x.heap.size x y) (OwnF w.heap.size wA.heap.size T.period T.deadline ⟨P, np, pc, E, ne, ec, F, nf, fc, R, nr, rc⟩ T)
    (fun _ _ h => h) (fun x y h hb => h.trans (hb.mono h.size)) (fun _ _ _ _ => trivial) (fun k v x y _ h hb => ownF_below k v x y h hb) (fun v x y h hb => ownF_below 100 v x y h hb) (Below.refl _ _).drew trivial ?hstep ?hlast
  case hstep =>
    intro k o hk ho ρ x hI hA hd hJ
    have hcx : ∀ i v, (#[Value.int .i64 T.period, .int .i64 T.deadline, .slice P np pc, .slice E ne ec, .slice F nf fc, .slice R nr rc] : Array Value)[i]? = some v → x.cell? ⟨w.heap.size, i, none⟩ = some v := fun i v hv => (hI.cell (by show w.heap.size < _; omega)).trans (hcA i v hv)
    have h1 : ρ (.tmp 1) = .pointer (some ⟨w.heap.size, 0, none⟩) := hA.tmp 1 (by decide)
    have hIx : IsT x w.heap.size ⟨P, np, pc, E, ne, ec, F, nf, fc, R, nr, rc⟩ T := (HT.out.below hbA).below (hI.mono (by omega))
    have hgt := hI.size
    match k, hk with
    | 0, _ =>
      have hoo := Option.some.inj ho
      subst hoo
      exact ⟨.pointer (some ⟨w.heap.size, 0, none⟩), x, by simp [execOp, h1, go_sem], rfl, Below.refl _ _⟩
    | 1, _ =>
      have hoo := Option.some.inj ho
      subst hoo
      have h2 := hd ⟨0, .data⟩ (by simp) (by rfl)
      have h3 := hcx 0 _ rfl
      have h2' : ρ (.tmp 5) = .pointer (some ⟨w.heap.size, 0, none⟩) := h2
      exact ⟨.int .i64 T.period, x, by simp [execOp, h2', h3, go_sem], rfl, Below.refl _ _⟩
    | 2, _ =>
      have hoo := Option.some.inj ho
      subst hoo
      exact ⟨.pointer (some ⟨w.heap.size, 1, none⟩), x, by simp [execOp, h1, go_sem], rfl, Below.refl _ _⟩
    | 3, _ =>
      have hoo := Option.some.inj ho
      subst hoo
      have h2 := hd ⟨2, .data⟩ (by simp) (by rfl)
      have h3 := hcx 1 _ rfl
      have h2' : ρ (.tmp 7) = .pointer (some ⟨w.heap.size, 1, none⟩) := h2
      exact ⟨.int .i64 T.deadline, x, by simp [execOp, h2', h3, go_sem], rfl, Below.refl _ _⟩
    | 4, _ =>
      have hoo := Option.some.inj ho
      subst hoo
      exact ⟨.slice (some ⟨x.heap.size, 0, none⟩) 0 0, x.alloc (.cells #[] 118), by simp [execOp, go_sem], newRow_here _ x _ hgt, below_alloc _⟩
    | 5, _ =>
      have hoo := Option.some.inj ho
      subst hoo
      exact ⟨.pointer (some ⟨w.heap.size, 2, none⟩), x, by simp [execOp, h1, go_sem], rfl, Below.refl _ _⟩
    | 6, _ =>
      have hoo := Option.some.inj ho
      subst hoo
      have h2 := hd ⟨5, .data⟩ (by simp) (by rfl)
      have h3 := hcx 2 _ rfl
      have h2' : ρ (.tmp 10) = .pointer (some ⟨w.heap.size, 2, none⟩) := h2
      exact ⟨.slice P np pc, x, by simp [execOp, h2', h3, go_sem], rfl, Below.refl _ _⟩
    | 7, _ =>
      have hoo := Option.some.inj ho
      subst hoo
      obtain ⟨g, h2, hg, hgl⟩ := hd ⟨4, .data⟩ (by simp) (by rfl)
      have h2' : ρ (.tmp 9) = _ := h2
      have h3 : ρ (.tmp 11) = .slice P np pc := hd ⟨6, .data⟩ (by simp) (by rfl)
      obtain ⟨v', w2, hr, how, hb⟩ := fresh_append (P := Tryz.prog) x 60 60 118 i0 (.agg #[.int .i64 0, .int .i64 0, .int .i64 0]) 3 24 Tryz.underlying60 hi0 hz0 hz1 hz2 rfl (by omega) wA.heap.size g hg hgl hgt P np pc (flatT T.parts) (by rw [flatT_length, hIx.hp]) hIx.nP (fun ad e => by have q := hIx.parts; simp only at q; rw [e] at q; exact q.news) (flatT_one _) (by unfold maxLen; omega) (by omega)
      exact ⟨v', w2, by simp [execOp, resolve, invoke, builtin, h2', h3, hr, Result.andThen], (by show OwnT _ _ _ _ _; unfold OwnT; rw [hIx.hp]; exact how), hb⟩
    | 8, _ =>
      have hoo := Option.some.inj ho
      subst hoo
      exact ⟨.slice (some ⟨x.heap.size, 0, none⟩) 0 0, x.alloc (.cells #[] 179), by simp [execOp, go_sem], newRow_here _ x _ hgt, below_alloc _⟩
    | 9, _ =>
      have hoo := Option.some.inj ho
      subst hoo
      exact ⟨.pointer (some ⟨w.heap.size, 3, none⟩), x, by simp [execOp, h1, go_sem], rfl, Below.refl _ _⟩
    | 10, _ =>
      have hoo := Option.some.inj ho
      subst hoo
      have h2 := hd ⟨9, .data⟩ (by simp) (by rfl)
      have h3 := hcx 3 _ rfl
      have h2' : ρ (.tmp 14) = .pointer (some ⟨w.heap.size, 3, none⟩) := h2
      exact ⟨.slice E ne ec, x, by simp [execOp, h2', h3, go_sem], rfl, Below.refl _ _⟩
    | 11, _ =>
      have hoo := Option.some.inj ho
      subst hoo
      obtain ⟨g, h2, hg, hgl⟩ := hd ⟨8, .data⟩ (by simp) (by rfl)
      have h2' : ρ (.tmp 13) = _ := h2
      have h3 : ρ (.tmp 15) = .slice E ne ec := hd ⟨10, .data⟩ (by simp) (by rfl)
      obtain ⟨v', w2, hr, how, hb⟩ := fresh_append (P := Tryz.prog) x 23 23 179 j0 (.agg #[.int .i64 0, .int .i64 0]) 2 16 Tryz.underlying23 hj0 hy0 hy1 hy2 rfl (by omega) wA.heap.size g hg hgl hgt E ne ec (flatE T.edges) (by rw [flatE_length, hIx.he]) hIx.nE (fun ad e => by have q := hIx.edges; simp only at q; rw [e] at q; exact q.news) (flatE_one _) (by unfold maxLen; omega) (by omega)
      exact ⟨v', w2, by simp [execOp, resolve, invoke, builtin, h2', h3, hr, Result.andThen], (by show OwnE _ _ _ _; unfold OwnE; rw [hIx.he]; exact how), hb⟩
    | 12, _ =>
      have hoo := Option.some.inj ho
      subst hoo
      exact ⟨.slice (some ⟨x.heap.size, 0, none⟩) 0 0, x.alloc (.cells #[] 220), by simp [execOp, go_sem], newRow_here _ x _ hgt, below_alloc _⟩
    | 13, _ =>
      have hoo := Option.some.inj ho
      subst hoo
      exact ⟨.pointer (some ⟨w.heap.size, 4, none⟩), x, by simp [execOp, h1, go_sem], rfl, Below.refl _ _⟩
    | 14, _ =>
      have hoo := Option.some.inj ho
      subst hoo
      have h2 := hd ⟨13, .data⟩ (by simp) (by rfl)
      have h3 := hcx 4 _ rfl
      have h2' : ρ (.tmp 18) = .pointer (some ⟨w.heap.size, 4, none⟩) := h2
      exact ⟨.slice F nf fc, x, by simp [execOp, h2', h3, go_sem], rfl, Below.refl _ _⟩
    | 15, _ =>
      have hoo := Option.some.inj ho
      subst hoo
      obtain ⟨g, h2, hg, hgl⟩ := hd ⟨12, .data⟩ (by simp) (by rfl)
      have h2' : ρ (.tmp 17) = _ := h2
      have h3 : ρ (.tmp 19) = .slice F nf fc := hd ⟨14, .data⟩ (by simp) (by rfl)
      obtain ⟨v', w2, hr, how, hb⟩ := fresh_append (P := Tryz.prog) x 61 61 220 k0 (.agg #[.int .i64 0, .int .i64 0, .int .i64 0]) 3 24 Tryz.underlying61 hk0 hx0 hx1 hx2 rfl (by omega) wA.heap.size g hg hgl hgt F nf fc (flatT T.futures) (by rw [flatT_length, hIx.hf]) hIx.nF (fun ad e => by have q := hIx.futures; simp only at q; rw [e] at q; exact q.news) (flatT_one _) (by unfold maxLen; omega) (by omega)
      exact ⟨v', w2, by simp [execOp, resolve, invoke, builtin, h2', h3, hr, Result.andThen], (by show OwnT _ _ _ _ _; unfold OwnT; rw [hIx.hf]; exact how), hb⟩
    | 16, _ =>
      have hoo := Option.some.inj ho
      subst hoo
      have g1 : ρ (.tmp 6) = .int .i64 T.period := hd ⟨1, .data⟩ (by simp) (by rfl)
      have g3 : ρ (.tmp 8) = .int .i64 T.deadline := hd ⟨3, .data⟩ (by simp) (by rfl)
      have g7 : OwnT 118 x wA.heap.size (ρ (.tmp 12)) T.parts := hd ⟨7, .data⟩ (by simp) (by rfl)
      have g11 : OwnE x wA.heap.size (ρ (.tmp 16)) T.edges := hd ⟨11, .data⟩ (by simp) (by rfl)
      have g15 : OwnT 220 x wA.heap.size (ρ (.tmp 20)) T.futures := hd ⟨15, .data⟩ (by simp) (by rfl)
      obtain ⟨A1, c1, e1, _, _⟩ := g7.slice
      obtain ⟨A2, c2, e2, _, _⟩ := g11.slice'
      obtain ⟨A3, c3, e3, _, _⟩ := g15.slice
      exact ⟨.agg #[.int .i64 T.period, .int .i64 T.deadline, .slice A1 T.parts.length c1, .slice A2 T.edges.length c2, .slice A3 T.futures.length c3, .slice none 0 0], x, by simp [execOp, g1, g3, e1, e2, e3, go_sem], ⟨_, _, _, rfl, e1 ▸ g7, e2 ▸ g11, e3 ▸ g15⟩, Below.refl _ _⟩
    | 17, _ =>
      have hoo := Option.some.inj ho
      subst hoo
      exact ⟨.pointer (some ⟨x.heap.size, 0, none⟩), x.alloc (.cells #[.int .i64 0, .int .i64 0, .slice none 0 0, .slice none 0 0, .slice none 0 0, .slice none 0 0] 64), by simp [execOp, go_sem], ⟨_, rfl, heap_alloc_new x _, hgt⟩, below_alloc _⟩
    | k + 18, hk => omega
  case hlast =>
    intro o ho vals x hI hF
    have hoo := Option.some.inj ho
    subst hoo
    have f16 : OwnAgg wA.heap.size T.period T.deadline T (vals 21) x := hF 16 (by decide)
    have f17 : NewDesc x wA.heap.size (vals 3) := hF 17 (by decide)
    refine own_last (base := wA.heap.size) (p := T.period) (q := T.deadline) (T := T) (.tmp 3) (.tmp 21) rfl rfl f16 f17 ?_
    intro g u1 u2 u3 x' e3 e21 HV hb
    have e3' : vals 3 = .pointer (some ⟨g, 0, none⟩) := e3
    have HO0 : Hid (OutR wA.heap.size T.period T.deadline T g u1 u2 u3 (.slice none 0 0) x') := Lib.hid ⟨HV.row, HV.parts, HV.edges, HV.futures, HV.le, fun b hb' => by simp [Value.ownBlock] at hb'⟩
    have HBA := Lib.hid (hI.trans hb)
    have HA0 := Lib.hid hbA
    have HSA := Lib.hid hsA
    have HCA := Lib.hid hcA
    have HRES := Lib.hid (show wA.heap[w.heap.size + 1]? = some (.cells #[.int .i64 0, .int .i64 0, .slice none 0 0, .slice none 0 0, .slice none 0 0, .slice none 0 0] 64 (0, 0)) by
      rw [hwA]
      have h := heap_alloc_new (w.alloc (.cells #[.int .i64 T.period, .int .i64 T.deadline, .slice P np pc, .slice E ne ec, .slice F nf fc, .slice R nr rc] 64)) (.cells #[.int .i64 0, .int .i64 0, .slice none 0 0, .slice none 0 0, .slice none 0 0, .slice none 0 0] 64)
      simpa using h)
    clear e3 e21 HV hb hI f16 f17 hT hi0 hz0 hz1 hz2 hj0 hy0 hy1 hy2 hk0 hx0 hx1 hx2 hcA hbA hwA
    simp only [fillA, fillL, List.contains_cons, List.contains_nil, Nat.reduceBEq, Bool.or_false, Bool.false_or, Bool.or_true, Bool.true_or, cond_true, cond_false, Nat.zero_add, Nat.reduceAdd]
    rw [e3']
    go_wp2
    go_loopw [4] (fun v wr => ∃ (j : Nat) (u4 : Value), j ≤ nr ∧ v = .int .i64 j ∧ Hid (OutR wA.heap.size T.period T.deadline T g u1 u2 u3 u4 wr) ∧ Hid (OwnB wr wA.heap.size u4 (T.bars.take j)) ∧ Hid (Below wA.heap.size wA wr)) (fun v _ => nr - (intOf v).toNat)
    case atStart => exact ⟨0, _, Nat.zero_le _, rfl, HO0, Lib.hid (OwnB.nil _ _), HBA⟩
    case round =>
      obtain ⟨j, u4, hj, rfl, HO, HB4, HB⟩ := hrel
      clear HO0 HBA
      have hb5w : wr.cell? ⟨w.heap.size, 5, none⟩ = some (.slice R nr rc) := (HB.out.cell (by show w.heap.size < _; rw [HSA.out]; omega)).trans (HCA.out 5 _ rfl)
      have HIW : Hid (IsT wr w.heap.size ⟨P, np, pc, E, ne, ec, F, nf, fc, R, nr, rc⟩ T) := Lib.hid ((HT.out.below HA0.out).below (HB.out.mono (by rw [HSA.out]; omega)))
      by_cases hlt : j < nr
      · obtain ⟨bk, off, xs, ys, A1, n1, c1, A2, n2, c2, hR, hbg, hbj, hl1, hl2, dq1, dq2, hz1, hz2, ha1, ha2⟩ := HIW.out.bars.at_ (k := j) (by rw [HIW.out.hr]; exact hlt)
        simp only at hR
        subst hR
        have HL1 := Lib.hid hl1
        have HL2 := Lib.hid hl2
        have HA1 := Lib.hid ha1
        have HA2 := Lib.hid ha2
        have HZ1 := Lib.hid hz1
        have HZ2 := Lib.hid hz2
        have HBJ := Lib.hid hbj
        have HDQ1 := Lib.hid dq1
        have HDQ2 := Lib.hid dq2
        have hbl := HBL.out _ (List.mem_of_getElem? hbj)
        simp only at hbl
        rw [hl1, hl2] at hbl
        have hnr := HNR.out
        clear hl1 hl2 ha1 ha2 hz1 hz2 hbj dq1 dq2
        go_wp2_with fail
        refine wp_region_gather' 22 20 [29, 30, 31, 32, 33, 34, 35, 36, 37, 38, 39, 40, 41, 42, 43, 44, 45, 46, 47, 48, 49, 50] (by kernel_rfl) (by kernel_rfl) (by intro d hd; simp at hd ⊢; omega) (fun x => Below wA.heap.size wA x ∧ OutR wA.heap.size T.period T.deadline T g u1 u2 u3 u4 x) (fun x => OwnB x wA.heap.size u4 (T.bars.take j)) (RB wA.heap.size u4.ownBlock) (OwnG g w.heap.size wA.heap.size u4 (some ⟨bk, off, none⟩) nr rc bk off j A1 n1 c1 A2 n2 c2 xs ys (T.bars.take j))
          (fun _ _ h => .inl h) (fun x y h hr => ⟨h.1.trans (hr.below h.1.size), h.2.rb hr⟩) (fun _ _ h hb => h.below hb) (fun k v x y hk h hr => ownG_rb k v x y hk h hr) (fun v x y h hb => OwnB.below h hb) ⟨HB.out.drew, HO.out.rb (.inl (Below.refl _ _).drew)⟩ (HB4.out.below (Below.refl _ _).drew) ?hstep5 ?hlast5
        case hstep5 =>
          intro k o hk ho ρ x hI hA hd hJ
          have h1 : ρ (.tmp 1) = .pointer (some ⟨w.heap.size, 0, none⟩) := hA.tmp 1 (by decide)
          have h3 : ρ (.tmp 3) = .pointer (some ⟨g, 0, none⟩) := hA.tmp 3 (by decide)
          have h4 : ρ (.tmp 4) = .int .i64 j := hA.tmp 4 (by decide)
          have hgt := hI.1.size
          have hxr : ∀ (q : Addr), q.block < w.heap.size + 1 → x.cell? q = wA.cell? q := fun q hq => hI.1.cell (by rw [HSA.out]; omega)
          have hwr' : ∀ (q : Addr), q.block < w.heap.size + 1 → wr.cell? q = wA.cell? q := fun q hq => HB.out.cell (by rw [HSA.out]; omega)
          have hb5 : x.cell? ⟨w.heap.size, 5, none⟩ = some (.slice (some ⟨bk, off, none⟩) nr rc) := (hxr _ (by show w.heap.size < _; omega)).trans (HCA.out 5 _ rfl)
          have hg5 : x.cell? ⟨g, 5, none⟩ = some u4 := by rw [cell_of_row _ _ _ _ _ _ hI.2.row]; rfl
          have hq1 : x.cell? ⟨bk, off + j * 2, none⟩ = some (.slice A1 n1 c1) := (hxr _ (by show bk < _; omega)).trans ((hwr' _ (by show bk < _; omega)).symm.trans HDQ1.out)
          have hq2 : x.cell? ⟨bk, off + j * 2 + 1, none⟩ = some (.slice A2 n2 c2) := (hxr _ (by show bk < _; omega)).trans ((hwr' _ (by show bk < _; omega)).symm.trans HDQ2.out)
          have hZ1 : Ints x w.heap.size A1 xs := HZ1.out.keep fun q hq => (hxr q (by omega)).trans (hwr' q (by omega)).symm
          have hZ2 : Ints x w.heap.size A2 ys := HZ2.out.keep fun q hq => (hxr q (by omega)).trans (hwr' q (by omega)).symm
          obtain ⟨k0, hk0, hx0, hx1, hx2⟩ := info_parts5 int_cell_info
          have hjl : (j : Int) < (nr : Int) := by omega
          match k, hk with
          | 0, _ =>
            have hoo := Option.some.inj ho
            subst hoo
            exact ⟨.pointer (some ⟨g, 5, none⟩), x, by simp [execOp, h3, go_sem], rfl, Below.refl _ _⟩
          | 1, _ =>
            have hoo := Option.some.inj ho
            subst hoo
            have g0 : ρ (.tmp 29) = .pointer (some ⟨g, 5, none⟩) := hd ⟨0, .data⟩ (by simp) (by rfl)
            exact ⟨u4, x, by simp [execOp, g0, hg5, go_sem], rfl, Below.refl _ _⟩
          | 2, _ =>
            have hoo := Option.some.inj ho
            subst hoo
            exact ⟨.slice (some ⟨x.heap.size, 0, none⟩) 0 0, x.alloc (.cells #[] 3), by simp [execOp, go_sem], newRow_here _ x _ hgt, below_alloc _⟩
          | 3, _ =>
            have hoo := Option.some.inj ho
            subst hoo
            exact ⟨.pointer (some ⟨w.heap.size, 5, none⟩), x, by simp [execOp, h1, go_sem], rfl, Below.refl _ _⟩
          | 4, _ =>
            have hoo := Option.some.inj ho
            subst hoo
            have g0 : ρ (.tmp 32) = .pointer (some ⟨w.heap.size, 5, none⟩) := hd ⟨3, .data⟩ (by simp) (by rfl)
            exact ⟨.slice (some ⟨bk, off, none⟩) nr rc, x, by simp [execOp, g0, hb5, go_sem], rfl, Below.refl _ _⟩
          | 5, _ =>
            have hoo := Option.some.inj ho
            subst hoo
            exact ⟨.int .i64 j, x, by simp [execOp, h4, go_sem], rfl, Below.refl _ _⟩
          | 6, _ =>
            have hoo := Option.some.inj ho
            subst hoo
            have g0 : ρ (.tmp 33) = .slice (some ⟨bk, off, none⟩) nr rc := hd ⟨4, .data⟩ (by simp) (by rfl)
            have g1 : ρ (.tmp 34) = .int .i64 j := hd ⟨5, .data⟩ (by simp) (by rfl)
            exact ⟨.pointer (some ⟨bk, off + j * 2, none⟩), x, by simp [execOp, g0, g1, go_sem, hjl], rfl, Below.refl _ _⟩
          | 7, _ =>
            have hoo := Option.some.inj ho
            subst hoo
            have g0 : ρ (.tmp 35) = .pointer (some ⟨bk, off + j * 2, none⟩) := hd ⟨6, .data⟩ (by simp) (by rfl)
            exact ⟨.pointer (some ⟨bk, off + j * 2, none⟩), x, by simp [execOp, g0, go_sem], rfl, Below.refl _ _⟩
          | 8, _ =>
            have hoo := Option.some.inj ho
            subst hoo
            have g0 : ρ (.tmp 36) = .pointer (some ⟨bk, off + j * 2, none⟩) := hd ⟨7, .data⟩ (by simp) (by rfl)
            exact ⟨.slice A1 n1 c1, x, by simp [execOp, g0, hq1, go_sem], rfl, Below.refl _ _⟩
          | 9, _ =>
            have hoo := Option.some.inj ho
            subst hoo
            obtain ⟨h, g0, hh, hhl⟩ := hd ⟨2, .data⟩ (by simp) (by rfl)
            have g0' : ρ (.tmp 31) = _ := g0
            have g1 : ρ (.tmp 37) = .slice A1 n1 c1 := hd ⟨8, .data⟩ (by simp) (by rfl)
            obtain ⟨v', w2, hr, how, hb⟩ := fresh_append (P := Tryz.prog) x 22 22 3 k0 (.int .i64 0) 1 8 Tryz.underlying22 hk0 hx0 hx1 hx2 rfl (by omega) wA.heap.size h hh hhl hgt A1 n1 c1 (xs.map (Value.int .i64)) (by rw [List.length_map, HL1.out]; omega) HA1.out (fun ad e => by have q := hZ1; rw [e] at q; exact q.cells) (oneCell_ints _) (by unfold maxLen; omega) (by omega)
            exact ⟨v', w2, by simp [execOp, resolve, invoke, builtin, g0', g1, hr, Result.andThen], (by show OwnI _ _ _ _; unfold OwnI; rw [HL1.out]; exact how), hb⟩
          | 10, _ =>
            have hoo := Option.some.inj ho
            subst hoo
            exact ⟨.slice (some ⟨x.heap.size, 0, none⟩) 0 0, x.alloc (.cells #[] 3), by simp [execOp, go_sem], newRow_here _ x _ hgt, below_alloc _⟩
          | 11, _ =>
            have hoo := Option.some.inj ho
            subst hoo
            exact ⟨.pointer (some ⟨w.heap.size, 5, none⟩), x, by simp [execOp, h1, go_sem], rfl, Below.refl _ _⟩
          | 12, _ =>
            have hoo := Option.some.inj ho
            subst hoo
            have g0 : ρ (.tmp 40) = .pointer (some ⟨w.heap.size, 5, none⟩) := hd ⟨11, .data⟩ (by simp) (by rfl)
            exact ⟨.slice (some ⟨bk, off, none⟩) nr rc, x, by simp [execOp, g0, hb5, go_sem], rfl, Below.refl _ _⟩
          | 13, _ =>
            have hoo := Option.some.inj ho
            subst hoo
            exact ⟨.int .i64 j, x, by simp [execOp, h4, go_sem], rfl, Below.refl _ _⟩
          | 14, _ =>
            have hoo := Option.some.inj ho
            subst hoo
            have g0 : ρ (.tmp 41) = .slice (some ⟨bk, off, none⟩) nr rc := hd ⟨12, .data⟩ (by simp) (by rfl)
            have g1 : ρ (.tmp 42) = .int .i64 j := hd ⟨13, .data⟩ (by simp) (by rfl)
            exact ⟨.pointer (some ⟨bk, off + j * 2, none⟩), x, by simp [execOp, g0, g1, go_sem, hjl], rfl, Below.refl _ _⟩
          | 15, _ =>
            have hoo := Option.some.inj ho
            subst hoo
            have g0 : ρ (.tmp 43) = .pointer (some ⟨bk, off + j * 2, none⟩) := hd ⟨14, .data⟩ (by simp) (by rfl)
            exact ⟨.pointer (some ⟨bk, off + j * 2 + 1, none⟩), x, by simp [execOp, g0, go_sem], rfl, Below.refl _ _⟩
          | 16, _ =>
            have hoo := Option.some.inj ho
            subst hoo
            have g0 : ρ (.tmp 44) = .pointer (some ⟨bk, off + j * 2 + 1, none⟩) := hd ⟨15, .data⟩ (by simp) (by rfl)
            exact ⟨.slice A2 n2 c2, x, by simp [execOp, g0, hq2, go_sem], rfl, Below.refl _ _⟩
          | 17, _ =>
            have hoo := Option.some.inj ho
            subst hoo
            obtain ⟨h, g0, hh, hhl⟩ := hd ⟨10, .data⟩ (by simp) (by rfl)
            have g0' : ρ (.tmp 39) = _ := g0
            have g1 : ρ (.tmp 45) = .slice A2 n2 c2 := hd ⟨16, .data⟩ (by simp) (by rfl)
            obtain ⟨v', w2, hr, how, hb⟩ := fresh_append (P := Tryz.prog) x 22 22 3 k0 (.int .i64 0) 1 8 Tryz.underlying22 hk0 hx0 hx1 hx2 rfl (by omega) wA.heap.size h hh hhl hgt A2 n2 c2 (ys.map (Value.int .i64)) (by rw [List.length_map, HL2.out]; omega) HA2.out (fun ad e => by have q := hZ2; rw [e] at q; exact q.cells) (oneCell_ints _) (by unfold maxLen; omega) (by omega)
            exact ⟨v', w2, by simp [execOp, resolve, invoke, builtin, g0', g1, hr, Result.andThen], (by show OwnI _ _ _ _; unfold OwnI; rw [HL2.out]; exact how), hb⟩
          | 18, _ =>
            have hoo := Option.some.inj ho
            subst hoo
            have g9 : OwnI x wA.heap.size (ρ (.tmp 38)) xs := hd ⟨9, .data⟩ (by simp) (by rfl)
            have g17 : OwnI x wA.heap.size (ρ (.tmp 46)) ys := hd ⟨17, .data⟩ (by simp) (by rfl)
            obtain ⟨B1, d1, e1, _⟩ := g9.slice
            obtain ⟨B2, d2, e2, _⟩ := g17.slice
            exact ⟨.agg #[.slice B1 xs.length d1, .slice B2 ys.length d2], x, by simp [execOp, e1, e2, go_sem], ⟨_, _, rfl, e1 ▸ g9, e2 ▸ g17⟩, Below.refl _ _⟩
          | 19, _ =>
            have hoo := Option.some.inj ho
            subst hoo
            have g18 : OwnPair wA.heap.size xs ys (ρ (.tmp 47)) x := hd ⟨18, .data⟩ (by simp) (by rfl)
            obtain ⟨v1, v2, e18, q1, q2⟩ := g18
            obtain ⟨B1, d1, rfl, _⟩ := q1.slice
            obtain ⟨B2, d2, rfl, _⟩ := q2.slice
            exact ⟨.slice (some ⟨x.heap.size, 0, none⟩) 1 1, x.alloc (.cells #[.slice B1 xs.length d1, .slice B2 ys.length d2] 122), by simp [execOp, e18, go_sem], ⟨_, _, _, rfl, heap_alloc_new x _, (fun e => by have := hI.2.lt _ e; omega), q1.below (below_alloc _), q2.below (below_alloc _)⟩, below_alloc _⟩
          | 20, _ =>
            have hoo := Option.some.inj ho
            subst hoo
            have g1 : ρ (.tmp 30) = u4 := hd ⟨1, .data⟩ (by simp) (by rfl)
            have g19 : OwnElem wA.heap.size u4.ownBlock xs ys (ρ (.tmp 48)) x := hd ⟨19, .data⟩ (by simp) (by rfl)
            obtain ⟨v', w2, hr, how, hrb⟩ := ownB_append (hJ rfl) g19 (by rw [List.length_take]; omega) hgt
            exact ⟨v', w2, by simp [execOp, resolve, invoke, builtin, g1, hr, Result.andThen], how, hrb⟩
          | 21, _ =>
            have hoo := Option.some.inj ho
            subst hoo
            exact ⟨.pointer (some ⟨g, 5, none⟩), x, by simp [execOp, h3, go_sem], rfl, Below.refl _ _⟩
          | k + 22, hk => omega
        case hlast5 =>
          intro o ho vals5 x hI hF5
          have hoo := Option.some.inj ho
          subst hoo
          have f20 : OwnB x wA.heap.size (vals5 49) (T.bars.take j ++ [(xs, ys)]) := hF5 20 (by decide)
          have f21 : vals5 50 = .pointer (some ⟨g, 5, none⟩) := hF5 21 (by decide)
          refine own_last2 (base := wA.heap.size) (p := T.period) (q := T.deadline) (T := T) (.tmp 50) (.tmp 49) rfl rfl hI.2 f20 f21 ?_
          intro u x2 e49 HO2 HB2 hb
          have HO2' := Lib.hid HO2
          have HB2' := Lib.hid HB2
          have HBX := Lib.hid (hI.1.trans hb)
          have HTK := Lib.hid (take_snoc' HBJ.out)
          clear hF5 f20 f21 HO2 HB2 hb hI e49
          simp only [fillA, fillL, List.contains_cons, List.contains_nil, Nat.reduceBEq, Bool.or_false, Bool.false_or, Bool.or_true, Bool.true_or, cond_true, cond_false, Nat.zero_add, Nat.reduceAdd]
          go_wp2
          go_roundw
          case rel => exact ⟨j + 1, u, by omega, by go_num, HO2', Lib.hid (by rw [HTK.out]; exact HB2'.out), HBX⟩
          case measure => simp [intOf]; omega
      · have e : nr = j := by omega
        have HBE : Hid (OwnB wr wA.heap.size u4 T.bars) := Lib.hid (by
          have h := HB4.out
          rwa [List.take_of_length_le (by rw [HIW.out.hr, ← e]; exact Nat.le_refl _)] at h)
        clear e
        obtain ⟨B1, d1, e1, _, _⟩ := HO.out.parts.slice
        obtain ⟨B2, d2, e2, _, _⟩ := HO.out.edges.slice'
        obtain ⟨B3, d3, e3, _, _⟩ := HO.out.futures.slice
        obtain ⟨B4, k4, d4, e4⟩ : ∃ A n c, u4 = .slice A n c := by
          obtain ⟨cs, _, h2, _⟩ := HBE.out
          rcases h2.2 with ⟨h3, _⟩ | ⟨g', cap, cur, h3, _⟩
          · exact ⟨_, _, _, h3⟩
          · exact ⟨_, _, _, h3⟩
        subst e1 e2 e3 e4
        have hrow := HO.out.row
        have r0 := cell_of_row wr g 0 _ _ _ hrow
        have r1 := cell_of_row wr g 1 _ _ _ hrow
        have r2 := cell_of_row wr g 2 _ _ _ hrow
        have r3 := cell_of_row wr g 3 _ _ _ hrow
        have r4 := cell_of_row wr g 4 _ _ _ hrow
        have r5 := cell_of_row wr g 5 _ _ _ hrow
        simp at r0 r1 r2 r3 r4 r5
        have hres : wr.heap[w.heap.size + 1]? = some (.cells #[.int .i64 0, .int .i64 0, .slice none 0 0, .slice none 0 0, .slice none 0 0, .slice none 0 0] 64 (0, 0)) := (HB.out.block _ (by rw [HSA.out]; omega)).trans HRES.out
        have y0 := cell_of_row wr (w.heap.size + 1) 0 _ _ _ hres
        have y1 := cell_of_row wr (w.heap.size + 1) 1 _ _ _ hres
        have y2 := cell_of_row wr (w.heap.size + 1) 2 _ _ _ hres
        have y3 := cell_of_row wr (w.heap.size + 1) 3 _ _ _ hres
        have y4 := cell_of_row wr (w.heap.size + 1) 4 _ _ _ hres
        have y5 := cell_of_row wr (w.heap.size + 1) 5 _ _ _ hres
        simp at y0 y1 y2 y3 y4 y5
        have z0 := frozen_of_row wr (w.heap.size + 1) 0 _ _ hres
        have z1 := frozen_of_row wr (w.heap.size + 1) 1 _ _ hres
        have z2 := frozen_of_row wr (w.heap.size + 1) 2 _ _ hres
        have z3 := frozen_of_row wr (w.heap.size + 1) 3 _ _ hres
        have z4 := frozen_of_row wr (w.heap.size + 1) 4 _ _ hres
        have z5 := frozen_of_row wr (w.heap.size + 1) 5 _ _ hres
        have hrl : w.heap.size + 1 < wr.heap.size := (Array.getElem?_eq_some_iff.1 hres).1
        have hgl := (Array.getElem?_eq_some_iff.1 hrow).1
        have hgw : w.heap.size + 2 ≤ g := by have := HO.out.le; rw [HSA.out] at this; exact this
        have HGW := Lib.hid hgw
        have HRW := Lib.hid hres
        clear hres hrow hgw
        go_wp2
        obtain ⟨x2, hx2⟩ : ∃ x2, x2 = ((((((wr.setCell ⟨w.heap.size + 1, 0, none⟩ (.int .i64 T.period)).setCell ⟨w.heap.size + 1, 1, none⟩ (.int .i64 T.deadline)).setCell ⟨w.heap.size + 1, 2, none⟩ (.slice B1 T.parts.length d1)).setCell ⟨w.heap.size + 1, 3, none⟩ (.slice B2 T.edges.length d2)).setCell ⟨w.heap.size + 1, 4, none⟩ (.slice B3 T.futures.length d3)).setCell ⟨w.heap.size + 1, 5, none⟩ (.slice B4 k4 d4)) := ⟨_, rfl⟩
        rw [← hx2]
        have h1 := heap_setCell_same wr (w.heap.size + 1) 0 _ _ (.int .i64 T.period) HRW.out
        have h2 := heap_setCell_same _ (w.heap.size + 1) 1 _ _ (.int .i64 T.deadline) h1
        have h3 := heap_setCell_same _ (w.heap.size + 1) 2 _ _ (.slice B1 T.parts.length d1) h2
        have h4 := heap_setCell_same _ (w.heap.size + 1) 3 _ _ (.slice B2 T.edges.length d2) h3
        have h5 := heap_setCell_same _ (w.heap.size + 1) 4 _ _ (.slice B3 T.futures.length d3) h4
        have h6 := heap_setCell_same _ (w.heap.size + 1) 5 _ _ (.slice B4 k4 d4) h5
        rw [← hx2] at h6
        have ho : ∀ k, k ≠ w.heap.size + 1 → x2.heap[k]? = wr.heap[k]? := fun k hk => by
          rw [hx2, heap_setCell_other _ _ _ _ hk, heap_setCell_other _ _ _ _ hk, heap_setCell_other _ _ _ _ hk, heap_setCell_other _ _ _ _ hk, heap_setCell_other _ _ _ _ hk, heap_setCell_other _ _ _ _ hk]
        have hle : w.heap.size ≤ w.heap.size + 1 := Nat.le_succ _
        have hbx : Below w.heap.size wr x2 := by
          rw [hx2]
          exact (((((((Below.refl _ wr).setCell hle _).setCell hle _).setCell hle _).setCell hle _).setCell hle _).setCell hle _)
        have k0 := cell_of_row x2 (w.heap.size + 1) 0 _ _ _ h6
        have k1 := cell_of_row x2 (w.heap.size + 1) 1 _ _ _ h6
        have k2 := cell_of_row x2 (w.heap.size + 1) 2 _ _ _ h6
        have k3 := cell_of_row x2 (w.heap.size + 1) 3 _ _ _ h6
        have k5 := cell_of_row x2 (w.heap.size + 1) 4 _ _ _ h6
        have k6 := cell_of_row x2 (w.heap.size + 1) 5 _ _ _ h6
        simp at k0 k1 k2 k3 k5 k6
        have hsb : w.heap.size ≤ wA.heap.size := by rw [HSA.out]; omega
        clear hx2
        refine bodyPost_ret (v := .agg #[.int .i64 T.period, .int .i64 T.deadline, .slice B1 T.parts.length d1, .slice B2 T.edges.length d2, .slice B3 T.futures.length d3, .slice B4 k4 d4]) ?_ rfl ⟨_, _, _, _, rfl, own_less (other_own HO.out.parts HRW.out (by decide) ho) hsb, own_less (other_own HO.out.edges HRW.out (by decide) ho) hsb, own_less (other_own HO.out.futures HRW.out (by decide) ho) hsb, (HBE.out.other HRW.out (by decide) (by decide) ho).less hsb, HA0.out.trans ((HB.out.mono hsb).trans hbx)⟩
        simp [results, Tryz.results31, go_sem, k0, k1, k2, k3, k5, k6]
end Go.Proofs.YtfahabphncmbfaaGreatDoor
