/- Words for memory in the seat YtohgdeddepfanaaDoor: slices of shapes; a list of shapes of the call's own. No statement is proved here. -/
import Derived.Test.YtohgdeddepfanaaDoorEdfMath
import Derived.Test.YtohgdeddepfanaaDoorClassMem
import Derived.Test.YtohgdeddepfanaaDoorDTab
import Derived.Lib.Hide
set_option linter.unusedVariables false
namespace Go.Proofs.YtohgdeddepfanaaDoor
open Go Go.RowKit

/-- A slice of shapes (its address A, its length that of es) reads as these, below block B. -/
def Shps (w : World) (B : Nat) (A : Option Addr) (es : List Shp) : Prop :=
  0 < es.length → ∃ b off, A = some ⟨b, off, none⟩ ∧ b < B ∧ ∀ k e, es[k]? = some e → (w.cell? ⟨b, off + k * 5, none⟩ = some (.int .i64 e.t) ∧ w.cell? ⟨b, off + k * 5 + 1, none⟩ = some (.int .i64 e.l)) ∧ w.cell? ⟨b, off + k * 5 + 2, none⟩ = some (.int .i64 e.m) ∧
    w.cell? ⟨b, off + k * 5 + 3, none⟩ = some (.int .i64 e.d) ∧ w.cell? ⟨b, off + k * 5 + 4, none⟩ = some (.int .i64 e.p)
theorem Shps.at_ {w : World} {B : Nat} {A : Option Addr} {es : List Shp} {k : Nat} (h : Shps w B A es) (hk : k < es.length) :
    ∃ b off t l m d p, A = some ⟨b, off, none⟩ ∧ b < B ∧ es[k]? = some ⟨t, l, m, d, p⟩ ∧ w.cell? ⟨b, off + k * 5, none⟩ = some (.int .i64 t) ∧ w.cell? ⟨b, off + k * 5 + 1, none⟩ = some (.int .i64 l) ∧ w.cell? ⟨b, off + k * 5 + 2, none⟩ = some (.int .i64 m) ∧
      w.cell? ⟨b, off + k * 5 + 3, none⟩ = some (.int .i64 d) ∧ w.cell? ⟨b, off + k * 5 + 4, none⟩ = some (.int .i64 p) := by
  obtain ⟨b, off, e, hb, hc⟩ := h (by omega)
  have he : es[k]? = some es[k] := List.getElem?_eq_getElem hk
  obtain ⟨⟨c0, c1⟩, c2, c3, c4⟩ := hc k _ he
  exact ⟨b, off, es[k].t, es[k].l, es[k].m, es[k].d, es[k].p, e, hb, he, c0, c1, c2, c3, c4⟩
theorem Shps.keep {w w' : World} {B : Nat} {A : Option Addr} {es : List Shp} (h : Shps w B A es) (hk : ∀ p : Addr, p.block < B → w'.cell? p = w.cell? p) : Shps w' B A es := fun hn => by
  obtain ⟨b, off, e, hb, hc⟩ := h hn
  refine ⟨b, off, e, hb, fun k x hx => ?_⟩
  obtain ⟨⟨c0, c1⟩, c2, c3, c4⟩ := hc k x hx
  exact ⟨⟨(hk _ hb).trans c0, (hk _ hb).trans c1⟩, (hk _ hb).trans c2, (hk _ hb).trans c3, (hk _ hb).trans c4⟩
theorem Shps.more {w : World} {B B' : Nat} {A : Option Addr} {es : List Shp} (h : Shps w B A es) (hB : B ≤ B') : Shps w B' A es := fun hn => by
  obtain ⟨b, off, e, hb, hc⟩ := h hn
  exact ⟨b, off, e, by omega, hc⟩
theorem Shps.below {w w' : World} {B : Nat} {A : Option Addr} {es : List Shp} (h : Shps w B A es) (hb : Below B w w') : Shps w' B A es := h.keep fun _ hp => hb.cell hp
theorem Shps.via {w w' : World} {A : Option Addr} {es : List Shp} (h : Shps w w.heap.size A es) (hb : Below w.heap.size w w') : Shps w' w'.heap.size A es := (h.below hb).more hb.size
theorem Shps.nil (w : World) (B : Nat) (A : Option Addr) : Shps w B A [] := fun h => absurd h (by simp)
theorem Shps.none_nil {w : World} {B : Nat} {es : List Shp} (h : Shps w B none es) : es = [] := by
  rcases Nat.eq_zero_or_pos es.length with h0 | h0
  · exact List.eq_nil_of_length_eq_zero h0
  · obtain ⟨_, _, e, _⟩ := h h0
    cases e
/-- A part of a slice. -/
theorem Shps.cut {w : World} {B b off : Nat} {es : List Shp} (h : Shps w B (some ⟨b, off, none⟩) es) (i j : Nat) : Shps w B (some ⟨b, off + i * 5, none⟩) ((es.drop i).take j) := fun hn => by
  have hl : 0 < es.length := by
    simp at hn
    omega
  obtain ⟨b', off', e, hb, hc⟩ := h hl
  injection e with e
  injection e with e1 e2
  subst e1 e2
  refine ⟨b, off + i * 5, rfl, hb, fun k x hx => ?_⟩
  have hx2 : es[i + k]? = some x := by
    rw [List.getElem?_take] at hx
    split at hx
    · rw [List.getElem?_drop] at hx; exact hx
    · cases hx
  obtain ⟨⟨c0, c1⟩, c2, c3, c4⟩ := hc (i + k) x hx2
  rw [show off + (i + k) * 5 = off + i * 5 + k * 5 by omega] at c0 c1 c2 c3 c4
  exact ⟨⟨c0, c1⟩, c2, c3, c4⟩
def shpC (s : Shp) : List Value := [.int .i64 s.t, .int .i64 s.l, .int .i64 s.m, .int .i64 s.d, .int .i64 s.p]
def flatS (es : List Shp) : List Value := es.flatMap shpC
theorem flatS_cons (e : Shp) (es : List Shp) : flatS (e :: es) = shpC e ++ flatS es := rfl
theorem flatS_length (es : List Shp) : (flatS es).length = es.length * 5 := by
  induction es with
  | nil => rfl
  | cons e es ih =>
    rw [flatS_cons, List.length_append, ih, List.length_cons]
    show 5 + _ = _
    omega
theorem flatS_app (a b : List Shp) : flatS (a ++ b) = flatS a ++ flatS b := by unfold flatS; rw [List.flatMap_append]
theorem flatS_at : ∀ {es : List Shp} {k : Nat} {e : Shp}, es[k]? = some e → ∀ j, j < 5 → (flatS es)[k * 5 + j]? = (shpC e)[j]?
  | [], k, e, h, _, _ => by simp at h
  | x :: es, 0, e, h, j, hj => by
    obtain rfl : x = e := by simpa using h
    rw [flatS_cons, Nat.zero_mul, Nat.zero_add, List.getElem?_append_left (by show j < 5; exact hj)]
  | x :: es, k + 1, e, h, j, hj => by
    have ih := flatS_at (es := es) (k := k) (e := e) (by simpa using h) j hj
    rw [flatS_cons, List.getElem?_append_right (by show 5 ≤ _; omega)]
    rw [show (k + 1) * 5 + j - (shpC x).length = k * 5 + j by show _ - 5 = _; omega]
    exact ih
theorem flatS_cell {es : List Shp} {j : Nat} {u : Value} (h : (flatS es)[j]? = some u) : ∃ e, es[j / 5]? = some e ∧ (shpC e)[j % 5]? = some u := by
  have hj : j < es.length * 5 := by
    rw [← flatS_length]
    rcases Nat.lt_or_ge j (flatS es).length with h1 | h1
    · exact h1
    · rw [List.getElem?_eq_none h1] at h; cases h
  have hk : es[j / 5]? = some es[j / 5] := List.getElem?_eq_getElem (by omega)
  refine ⟨_, hk, ?_⟩
  have := flatS_at hk (j % 5) (Nat.mod_lt _ (by decide))
  rw [show j / 5 * 5 + j % 5 = j by omega, h] at this
  exact this.symm
theorem flatS_one (es : List Shp) : ∀ u ∈ flatS es, u.oneCell' = true := by
  intro u hu
  unfold flatS at hu
  obtain ⟨e, _, h⟩ := List.mem_flatMap.mp hu
  rcases (by simpa [shpC] using h : u = .int .i64 e.t ∨ u = .int .i64 e.l ∨ u = .int .i64 e.m ∨ u = .int .i64 e.d ∨ u = .int .i64 e.p) with rfl | rfl | rfl | rfl | rfl <;> rfl
theorem Shps.news {w : World} {B : Nat} {ad : Addr} {es : List Shp} (h : Shps w B (some ad) es) : ∀ j u, (flatS es)[j]? = some u → w.cell? (ad.add j) = some u := by
  intro j u hu
  obtain ⟨e, he, hu2⟩ := flatS_cell hu
  have hl : 0 < es.length := by
    cases es with
    | nil => simp at he
    | cons _ _ => simp
  obtain ⟨b, off, hA, _, hc⟩ := h hl
  injection hA with hA
  subst hA
  rw [addr_add]
  obtain ⟨⟨c0, c1⟩, c2, c3, c4⟩ := hc _ _ he
  have hm : j % 5 = 0 ∨ j % 5 = 1 ∨ j % 5 = 2 ∨ j % 5 = 3 ∨ j % 5 = 4 := by omega
  have ej : j = j / 5 * 5 + j % 5 := by omega
  rcases hm with h0 | h0 | h0 | h0 | h0 <;> rw [h0] at hu2 ej <;> obtain rfl := Option.some.inj hu2 <;> rw [ej]
  · exact c0
  · exact c1
  · exact c2
  · exact c3
  · exact c4
/-- A list of shapes in a block of the call's own (from base on). -/
def OwnS (w : World) (base : Nat) (v : Value) (es : List Shp) : Prop := w.ownsRow base 34 5 v es.length (flatS es)
theorem OwnS.below {w w' : World} {base : Nat} {v : Value} {es : List Shp} (h : OwnS w base v es) (hb : Below w.heap.size w w') : OwnS w' base v es := own_below h hb
theorem OwnS.down {w : World} {b b' : Nat} {v : Value} {es : List Shp} (h : OwnS w b v es) (hb : b' ≤ b) : OwnS w b' v es := own_less h hb
theorem OwnS.slice {w : World} {base : Nat} {v : Value} {es : List Shp} (h : OwnS w base v es) : ∃ A c, v = .slice A es.length c ∧ Shps w w.heap.size A es ∧ (A = none → es.length = 0 ∧ c = 0) := by
  rcases h.2 with ⟨rfl, hn⟩ | ⟨g, cap, cur, rfl, hg, hgg, hnc, hcm, hcs, htake⟩
  · have : es = [] := List.eq_nil_of_length_eq_zero hn
    subst this
    exact ⟨none, 0, rfl, fun h0 => absurd h0 (by simp), fun _ => ⟨rfl, rfl⟩⟩
  · refine ⟨some ⟨g, 0, none⟩, cap, rfl, fun _ => ⟨g, 0, rfl, (Array.getElem?_eq_some_iff.1 hgg).1, fun k e he => ?_⟩, fun e => by cases e⟩
    have h' : w.ownsRow base 34 5 (.slice (some ⟨g, 0, none⟩) es.length cap) es.length (flatS es) := h
    have cc : ∀ j, j < 5 → ∀ u, (shpC e)[j]? = some u → w.cell? ⟨g, 0 + k * 5 + j, none⟩ = some u := fun j hj u hu => by
      have c := h'.cells (g := g) rfl _ _ ((flatS_at he j hj).trans hu)
      rw [addr_add] at c
      rw [show 0 + k * 5 + j = 0 + (k * 5 + j) by omega]
      exact c
    exact ⟨⟨cc 0 (by decide) _ rfl, cc 1 (by decide) _ rfl⟩, cc 2 (by decide) _ rfl, cc 3 (by decide) _ rfl, cc 4 (by decide) _ rfl⟩
theorem OwnS.shps {w : World} {base n c : Nat} {A : Option Addr} {es : List Shp} (h : OwnS w base (.slice A n c) es) : Shps w w.heap.size A es := by
  obtain ⟨A', c', e, hs, _⟩ := h.slice
  injection e with e1 _ _
  rw [e1]
  exact hs
theorem OwnS.len {w : World} {base n c : Nat} {A : Option Addr} {es : List Shp} (h : OwnS w base (.slice A n c) es) : es.length = n := by
  obtain ⟨A', c', e, _⟩ := h.slice
  injection e with _ e2 _
  exact e2.symm
theorem OwnS.non {w : World} {base n c : Nat} {A : Option Addr} {es : List Shp} (h : OwnS w base (.slice A n c) es) : A = none → n = 0 ∧ c = 0 := by
  obtain ⟨A', c', e, _, hn⟩ := h.slice
  injection e with e1 e2 e3
  rw [e1, e2, e3]
  exact hn
/-- What hands back a list of shapes of its own. -/
def GotShps (es : List Shp) (w : World) (e : Ending) (w' : World) : Prop := ∃ A c, e = .returned (.slice A es.length c) ∧ OwnS w' w.heap.size (.slice A es.length c) es ∧ Below w.heap.size w w'
theorem shape_cell_info : (Tryd.prog.info? 34).map (fun i => (i.zero, i.size, i.bytes)) = some (some (.agg #[.int .i64 0, .int .i64 0, .int .i64 0, .int .i64 0, .int .i64 0]), 5, 40) := by kernel_rfl
theorem shape_info : ∃ i, Tryd.prog.info? 34 = some i ∧ i.zero = some (.agg #[.int .i64 0, .int .i64 0, .int .i64 0, .int .i64 0, .int .i64 0]) ∧ i.size = 5 ∧ i.bytes = 40 := by
  have h := shape_cell_info
  cases hi : Tryd.prog.info? 34 with
  | none => rw [hi] at h; cases h
  | some i =>
    rw [hi] at h
    simp at h
    exact ⟨i, rfl, h.1, h.2.1, h.2.2⟩
/-- An empty row that was made just now. -/
def NewS (w : World) (base : Nat) (v : Value) : Prop := ∃ g, v = .slice (some ⟨g, 0, none⟩) 0 0 ∧ w.heap[g]? = some (.cells #[] 34 (0, 0)) ∧ base ≤ g
theorem NewS.below {w w' : World} {base : Nat} {v : Value} (h : NewS w base v) (hb : Below w.heap.size w w') : NewS w' base v := by
  obtain ⟨g, e, hg, hl⟩ := h
  exact ⟨g, e, by rw [hb.block _ (Array.getElem?_eq_some_iff.1 hg).1]; exact hg, hl⟩
set_option maxHeartbeats 1000000 in
theorem fresh_shps {w : World} {base : Nat} {u : Value} (hu : NewS w base u) (hbw : base ≤ w.heap.size) {A : Option Addr} {n c : Nat} {zs : List Shp} (hn : zs.length = n) (hl : n ≤ 1000) (hI : Shps w w.heap.size A zs) (hA : A = none → n = 0 ∧ c = 0) :
    ∃ A1 c1 w', (Builtin.append_ #[22, 22] 22 #[u, .slice A n c]).run Tryd.prog w = .ok (.slice A1 n c1) w' ∧ OwnS w' base (.slice A1 n c1) zs ∧ Below w.heap.size w w' := by
  obtain ⟨g, rfl, hg, hbg⟩ := hu
  obtain ⟨i0, hi, hz0, hz1, hz2⟩ := shape_info
  subst hn
  obtain ⟨v', w', hr, ho, hb⟩ := fresh_append (P := Tryd.prog) w 22 22 34 i0 (.agg #[.int .i64 0, .int .i64 0, .int .i64 0, .int .i64 0, .int .i64 0]) 5 40 Tryd.underlying22 hi hz0 hz1 hz2 rfl (by decide) base g hg hbg hbw A zs.length c (flatS zs) (flatS_length zs) hA (fun ad e => by subst e; exact hI.news) (flatS_one zs) (by unfold maxLen; omega) (by omega)
  have ho2 : OwnS w' base v' zs := ho
  obtain ⟨A1, c1, rfl, _⟩ := ho2.slice
  exact ⟨A1, c1, w', hr, ho2, hb⟩
theorem wpList_append_plainS {P : Program} {ops : Array Oper} {rest : List Oper} {o : Oper} {a : Act} {Q : Exit → Act → World → Prop} {w w' : World} {v : Value} (hgd : o.guard = none) (s x : Operand) (t : TypeId) (vs vx : Value)
    (ho : o.op = .call { callee := .builtin .append, args := #[s, x], argTypes := #[t, t] }) (hs : a.eval s = vs) (hx : a.eval x = vx) (hr : (Builtin.append_ #[t, t] o.type #[vs, vx]).run P w = .ok v w')
    (h : wpList P ops Q rest (a.put o.dst v) w') : wpList P ops Q (o :: rest) a w := by
  refine wpList_plain hgd fun K hK => ?_
  unfold Oper.wp execOp
  simp only [ho, resolve, invoke, builtin, Sem.run_bind, Sem.run_pure, Result.andThen_ok, List.map_toArray, List.map_cons, List.map_nil, hs, hx, hr]
  exact hK _ _ h
end Go.Proofs.YtohgdeddepfanaaDoor
