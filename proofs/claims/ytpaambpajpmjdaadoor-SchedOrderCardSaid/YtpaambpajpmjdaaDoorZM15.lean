/- Lists of the call's own that grow, one by one, beside others (as lower's LowGrow, under names of its own), in the seat YtpaambpajpmjdaaDoor.
   ints and Own of trefoillaw10 in the seat YtpaambpajpmjdaaDoor: their contracts.
   No statement is proved here. -/
import Derived.Test.YtpaambpajpmjdaaDoorZM3
import Derived.Deep.AppendLies
import Derived.Test.YtpaambpajpmjdaaDoorZM7
import Derived.Test.YtpaambpajpmjdaaDoorZRefLong
set_option linter.unusedSimpArgs false
set_option linter.unusedVariables false
namespace Go.Proofs.YtpaambpajpmjdaaDoor
open Go.RowKit

theorem info_partsS {P : Program} {t : TypeId} {z : Value} {s b : Nat} (h : (P.info? t).map (fun i => (i.zero, i.size, i.bytes)) = some (some z, s, b)) : ∃ i, P.info? t = some i ∧ i.zero = some z ∧ i.size = s ∧ i.bytes = b := by
  cases hi : P.info? t with
  | none => rw [hi] at h; cases h
  | some i =>
    rw [hi] at h
    simp at h
    exact ⟨i, rfl, h.1, h.2.1, h.2.2⟩
/-- New blocks, or one row of elements of type t (from base on) that grows. -/
def RXs (t : TypeId) (base : Nat) (row : Option Nat) (w w' : World) : Prop :=
  Below w.heap.size w w' ∨ (w.grownBy w' row ∧ ∀ b, row = some b → base ≤ b ∧ ∃ cs fr, w.heap[b]? = some (.cells cs t fr))
theorem RXs.size {t : TypeId} {base : Nat} {row : Option Nat} {w w' : World} (h : RXs t base row w w') : w.heap.size ≤ w'.heap.size := by
  rcases h with h | ⟨h, _⟩
  · exact h.size
  · exact h.size
theorem RXs.heap {u : TypeId} {base : Nat} {row : Option Nat} {w w' : World} (h : RXs u base row w w') {k : Nat} {cs : Array Value} {t : TypeId} {fr : Nat × Nat} (hk : w.heap[k]? = some (.cells cs t fr)) (ht : t ≠ u) : w'.heap[k]? = some (.cells cs t fr) := by
  have hlt : k < w.heap.size := (Array.getElem?_eq_some_iff.1 hk).1
  rcases h with h | ⟨h, h2⟩
  · rw [h.block k hlt]; exact hk
  · rw [h.block k hlt (fun e => by
      obtain ⟨_, cs', fr', h3⟩ := h2 k e.symm
      rw [hk] at h3
      injection h3 with h3
      injection h3 with _ h4 _
      exact ht h4)]
    exact hk
theorem RXs.own {u : TypeId} {base base' : Nat} {row : Option Nat} {w w' : World} (h : RXs u base row w w') {t : TypeId} {s n : Nat} {v : Value} {xs : List Value} (ho : w.ownsRow base' t s v n xs) (ht : t ≠ u) : w'.ownsRow base' t s v n xs := by
  refine ⟨ho.1, ?_⟩
  rcases ho.2 with hn | ⟨g, cap, cur, rfl, hg, hgg, rest⟩
  · exact .inl hn
  · exact .inr ⟨g, cap, cur, rfl, hg, h.heap hgg ht, rest⟩
theorem RXs.below {t : TypeId} {base : Nat} {row : Option Nat} {w w' : World} (h : RXs t base row w w') (hb : base ≤ w.heap.size) : Below base w w' := by
  rcases h with h | ⟨h, h2⟩
  · exact h.mono hb
  · refine ⟨h.os, h.tape, h.output, h.size, fun k hk => h.block k (by omega) (fun e => ?_)⟩
    have := (h2 k e.symm).1
    omega
/-- One new element of type t, in a block of its own. -/
def OwnXs (t : TypeId) (row : Option Nat) (news : List Value) (v : Value) (w : World) : Prop :=
  ∃ h, v = .slice (some ⟨h, 0, none⟩) 1 1 ∧ w.heap[h]? = some (.cells news.toArray t (0, 0)) ∧ row ≠ some h
theorem OwnXs.rx {t u : TypeId} {base : Nat} {row : Option Nat} {news : List Value} {v : Value} {w w' : World} (h : OwnXs t row news v w) (hr : RXs u base row w w') : OwnXs t row news v w' := by
  obtain ⟨k, e, hk, hne⟩ := h
  have hlt : k < w.heap.size := (Array.getElem?_eq_some_iff.1 hk).1
  refine ⟨k, e, ?_, hne⟩
  rcases hr with hr | ⟨hr, _⟩
  · rw [hr.block k hlt]; exact hk
  · rw [hr.block k hlt (fun e => hne e.symm)]; exact hk
theorem row_lts {w : World} {base : Nat} {t : TypeId} {s n : Nat} {v : Value} {xs : List Value} (h : w.ownsRow base t s v n xs) : ∀ b, v.ownBlock = some b → base ≤ b ∧ b < w.heap.size ∧ ∃ cs fr, w.heap[b]? = some (.cells cs t fr) := by
  intro b hb
  rcases h.2 with ⟨rfl, _⟩ | ⟨g, cap, cur, rfl, hg, hgg, _⟩
  · simp [Value.ownBlock] at hb
  · obtain rfl : g = b := by simpa [Value.ownBlock] using hb
    exact ⟨hg, (Array.getElem?_eq_some_iff.1 hgg).1, _, _, hgg⟩
/-- What a row of that many elements, one more, has become. -/
def Grews (t : TypeId) (base s n : Nat) (xs : List Value) (v : Value) (w : World) : Prop := ∃ F d, v = .slice F n d ∧ w.ownsRow base t s (.slice F n d) n xs
theorem Grews.below {t : TypeId} {base s n : Nat} {xs : List Value} {v : Value} {w w' : World} (h : Grews t base s n xs v w) (hb : Below w.heap.size w w') : Grews t base s n xs v w' := by
  obtain ⟨F, d, e, ho⟩ := h
  exact ⟨F, d, e, own_below ho hb⟩
theorem ownXs_append {w : World} {base : Nat} {t tl : TypeId} {s bytes n : Nat} {z u v : Value} {xs news : List Value} (hu : Tryd.prog.underlying tl = some (.slice t)) (hinf : (Tryd.prog.info? t).map (fun i => (i.zero, i.size, i.bytes)) = some (some z, s, bytes)) (hzs : z.cells.size = s) (hs0 : 0 < s) (hby : bytes ≤ 48)
    (hO : w.ownsRow base t s u n xs) (hE : OwnXs t u.ownBlock news v w) (hs : news.length = s) (h1 : ∀ x ∈ news, x.oneCell' = true) (hl : n ≤ 1000) (hb : base ≤ w.heap.size) :
    ∃ v' w', (Builtin.append_ #[tl, tl] tl #[u, v]).run Tryd.prog w = .ok v' w' ∧ Grews t base s (n + 1) (xs ++ news) v' w' ∧ RXs t base u.ownBlock w w' ∧ ∀ k, v'.ownBlock = some k → u.ownBlock = some k ∨ w.heap.size ≤ k := by
  obtain ⟨h, rfl, hh, hne⟩ := hE
  obtain ⟨i0, hi0, hz0, hz1, hz2⟩ := info_partsS hinf
  have hlt := row_lts hO
  obtain ⟨g, cap, w', hr, how, hg, hat, hgl⟩ := run_append_lies (P := Tryd.prog) w tl tl base t i0 z s bytes hu hi0 hz0 hz1 hz2 hzs hs0 u n xs hO
    ⟨h, 0, none⟩ 1 1 news (by rw [hs, Nat.one_mul]) (fun j x hx => World.news_of_block hh j x (by simpa using hx)) h1 (by omega) (by unfold maxLen; omega) (by have : (n + 1) * bytes ≤ 1001 * 48 := Nat.mul_le_mul (by omega) hby; omega) hb _ rfl
  exact ⟨_, w', hr, ⟨_, _, rfl, how⟩, .inr ⟨hg, fun b hb' => ⟨(hlt b hb').1, (hlt b hb').2.2⟩⟩, fun k hk => by
    obtain rfl : g = k := by simpa [Value.ownBlock] using hk
    rcases hat with h | h
    · exact .inl h
    · exact .inr (by omega)⟩
theorem wpList_append_runs {P : Program} {ops : Array Oper} {rest : List Oper} {o : Oper} {a : Act} {Q : Exit → Act → World → Prop} {w w' : World} {v : Value} (hgd : o.guard = none) (s x : Operand) (t : TypeId) (vs vx : Value)
    (ho : o.op = .call { callee := .builtin .append, args := #[s, x], argTypes := #[t, t] }) (hs : a.eval s = vs) (hx : a.eval x = vx) (hr : (Builtin.append_ #[t, t] o.type #[vs, vx]).run P w = .ok v w')
    (h : wpList P ops Q rest (a.put o.dst v) w') : wpList P ops Q (o :: rest) a w := by
  refine wpList_plain hgd fun K hK => ?_
  unfold Oper.wp execOp
  simp only [ho, resolve, invoke, builtin, Sem.run_bind, Sem.run_pure, Result.andThen_ok, List.map_toArray, List.map_cons, List.map_nil, hs, hx, hr]
  exact hK _ _ h
/-- 'append(l, e)': e lies in a block of its own, laid just ahead. -/
theorem wpList_pushXs {ops : Array Oper} {rest : List Oper} {o : Oper} {a : Act} {Q : Exit → Act → World → Prop} (hgd : o.guard = none) (s x : Operand) (t tl : TypeId) (size bytes : Nat) (z : Value) (hu : Tryd.prog.underlying tl = some (.slice t))
    (hinf : (Tryd.prog.info? t).map (fun i => (i.zero, i.size, i.bytes)) = some (some z, size, bytes)) (hzs : z.cells.size = size) (hs0 : 0 < size) (hby : bytes ≤ 48) (hty : o.type = tl)
    (ho : o.op = .call { callee := .builtin .append, args := #[s, x], argTypes := #[tl, tl] }) (w1 : World) (base n : Nat) (u : Value) (xs news : List Value) (hO : w1.ownsRow base t size u n xs) (hn : news.length = size) (h1 : ∀ x ∈ news, x.oneCell' = true) (hl : n ≤ 1000) (hb : base ≤ w1.heap.size)
    (hs : a.eval s = u) (hx : a.eval x = .slice (some ⟨w1.heap.size, 0, none⟩) 1 1)
    (h : ∀ F d w', w'.ownsRow base t size (.slice F (n + 1) d) (n + 1) (xs ++ news) → RXs t base u.ownBlock w1 w' → (∀ k, (Value.slice F (n + 1) d).ownBlock = some k → u.ownBlock = some k ∨ w1.heap.size ≤ k) → wpList Tryd.prog ops Q rest (a.put o.dst (.slice F (n + 1) d)) w') :
    wpList Tryd.prog ops Q (o :: rest) a (w1.alloc (.cells news.toArray t)) := by
  have hE : OwnXs t u.ownBlock news (.slice (some ⟨w1.heap.size, 0, none⟩) 1 1) (w1.alloc (.cells news.toArray t)) := ⟨w1.heap.size, rfl, heap_alloc_new w1 _, fun e => by have := (row_lts hO _ e).2.1; omega⟩
  obtain ⟨v', w', hr, ⟨F, d, rfl, ho'⟩, hR, hat⟩ := ownXs_append (tl := tl) hu hinf hzs hs0 hby (own_below hO (below_alloc _)) hE hn h1 hl (by simp; omega)
  have hR' : RXs t base u.ownBlock w1 w' := by
    rcases hR with hR | ⟨hg, h2⟩
    · exact .inl ((below_alloc _).trans (hR.mono (by simp)))
    · refine .inr ⟨⟨hg.os, hg.tape, hg.output, Nat.le_trans (by simp) hg.size, fun k hk hne => ?_⟩, fun b hb' => ⟨(h2 b hb').1, (row_lts hO b hb').2.2⟩⟩
      rw [hg.block k (by simp; omega) hne]
      exact (below_alloc _).block k hk
  exact wpList_append_runs hgd s x tl u _ ho hs hx (by rw [hty]; exact hr) (h F d w' ho' hR' (fun k hk => (hat k hk).imp id (fun h => by simp at h; omega)))
end Go.Proofs.YtpaambpajpmjdaaDoor
set_option linter.unusedVariables false
namespace Go.Proofs.YtpaambpajpmjdaaDoor
open Go.RowKit

theorem OwnI.capLe {w : World} {base : Nat} {A : Option Addr} {n c : Nat} {zs : List Int} (h : OwnI w base (.slice A n c) zs) : n ≤ c := by
  rcases h.2 with ⟨hv, hn⟩ | ⟨g, cap, cur, hv, hg, hgg, hle, _⟩
  · injection hv with _ h1 h2
    omega
  · injection hv with _ h1 h2
    omega
theorem OwnI.noneNil {w : World} {base : Nat} {A : Option Addr} {n c : Nat} {zs : List Int} (h : OwnI w base (.slice A n c) zs) : A = none → n = 0 ∧ c = 0 := by
  rintro rfl
  rcases h.2 with ⟨hv, hn⟩ | ⟨g, cap, cur, hv, _⟩
  · injection hv with _ h1 h2
    exact ⟨h1, h2⟩
  · injection hv with h1
    cases h1
/-- A list of lists of the call's own (from base on). -/
def OwnTr (w : World) (base : Nat) (v : Value) (t : List (List Int)) : Prop :=
  ∃ vs : List Value, w.ownsRow base 22 1 v t.length vs ∧ ∀ (k : Nat) (r : List Int), t[k]? = some r → ∃ A1 c1, vs[k]? = some (Value.slice A1 r.length c1) ∧ OwnI w base (Value.slice A1 r.length c1) r
theorem OwnTr.below {w w' : World} {base : Nat} {v : Value} {t : List (List Int)} (h : OwnTr w base v t) (hb : Below w.heap.size w w') : OwnTr w' base v t := by
  obtain ⟨vs, h1, h2⟩ := h
  exact ⟨vs, own_below h1 hb, fun k r hr => by
    obtain ⟨A1, c1, e1, e2⟩ := h2 k r hr
    exact ⟨A1, c1, e1, e2.below hb⟩⟩
theorem OwnTr.new (w : World) (base : Nat) (hb : base ≤ w.heap.size) : OwnTr (w.alloc (.cells #[] 22)) base (.slice (some ⟨w.heap.size, 0, none⟩) 0 0) [] :=
  ⟨[], ⟨rfl, .inr ⟨w.heap.size, 0, #[], rfl, hb, heap_alloc_new w _, Nat.le_refl _, by simp [maxLen], rfl, rfl⟩⟩, fun k r hr => by simp at hr⟩
theorem OwnTr.open {w : World} {base : Nat} {v : Value} {t : List (List Int)} (h : OwnTr w base v t) : ∃ A c, v = .slice A t.length c ∧ Trc w w.heap.size A t ∧ (A = none → t.length = 0 ∧ c = 0) ∧ t.length ≤ c := by
  obtain ⟨vs, h1, h2⟩ := h
  rcases h1.2 with ⟨rfl, hn⟩ | ⟨g, cap, cur, rfl, hg, hgg, hle, rest⟩
  · refine ⟨none, 0, by rw [hn], fun hp => by omega, fun _ => ⟨hn, rfl⟩, by omega⟩
  · refine ⟨some ⟨g, 0, none⟩, cap, rfl, fun _ => ⟨g, 0, rfl, (Array.getElem?_eq_some_iff.1 hgg).1, fun k r hr => ?_⟩, fun e => (by cases e), hle⟩
    obtain ⟨A1, c1, e1, e2⟩ := h2 k r hr
    refine ⟨A1, c1, ?_, e2.ints, e2.noneNil, e2.capLe⟩
    have hc := h1.cells (g := g) rfl k _ e1
    rw [addr_add] at hc
    exact hc
theorem rows_cell_infoS : (Tryd.prog.info? 22).map (fun i => (i.zero, i.size, i.bytes)) = some (some (.slice none 0 0), 1, 24) := by kernel_rfl
section
variable {N : Option Addr} {nn nc : Nat} {need : List Int} {T : Option Addr} {tn tc : Nat} {t : List (List Int)}
set_option maxHeartbeats 1000000 in
theorem ints10_any (w : World) (hn : need.length = nn) (hl : nn ≤ 900) (hI : Ints w w.heap.size N need) (hN : N = none → nn = 0 ∧ nc = 0) :
    Calls Tryd.prog 16 #[.slice N nn nc] w fun e w' => ∃ A c, e = .returned (.slice A nn c) ∧ Ints w' w'.heap.size A need ∧ (A = none → nn = 0 ∧ c = 0) ∧ Below w.heap.size w w' := by
  have HI := Lib.hid hI
  have HN := Lib.hid hn
  have HC := Lib.hid hN
  clear hI hn hN
  go_enter Tryd.func16, Tryd.ntmps16
  go_wp2_with (at_builtin; refine wpList_own rfl _ _ rfl w w.heap.size N nc nn need HN.out (by omega) HI.out (Nat.le_refl _) (fun q => (HC.out q).2) (by simp [Act.eval]) rfl ?_; intro A1 c1 w1 HO1 HB1; (have HO1' := Lib.hid HO1); (have HB1' := Lib.hid HB1); clear HO1 HB1)
  go_ret
  exact ⟨A1, c1, rfl, HO1'.out.ints, HO1'.out.noneNil, HB1'.out⟩
set_option maxRecDepth 100000 in
set_option maxHeartbeats 2000000 in
theorem sown_any (w : World) (ht : t.length = tn) (hl : tn ≤ 400) (hr : ∀ r ∈ t, r.length ≤ 400) (hT : Trc w w.heap.size T t) :
    Calls Tryd.prog 17 #[.slice T tn tc] w fun e w' => ∃ A c, e = .returned (.slice A tn c) ∧ Trc w' w'.heap.size A t ∧ (A = none → tn = 0 ∧ c = 0) ∧ Below w.heap.size w w' := by
  have HT := Lib.hid hT
  have HL := Lib.hid ht
  have HR := Lib.hid hr
  clear hT ht hr
  go_enter Tryd.func17, Tryd.ntmps17
  go_wp2
  go_loopw [3, 4] (fun o v wr => ∃ (k : Nat) (A' : Option Addr) (c' : Nat), k ≤ tn ∧ v = .int .i64 k ∧ o = .slice A' k c' ∧ Hid (OwnTr wr w.heap.size (.slice A' k c') (t.take k)) ∧ Hid (Below w.heap.size w wr)) (fun _ v _ => tn - (intOf v).toNat)
  case atStart => exact ⟨0, _, _, Nat.zero_le _, rfl, rfl, Lib.hid (OwnTr.new w _ (Nat.le_refl _)), Lib.hid (below_alloc _)⟩
  case round =>
    obtain ⟨k, A', c', hk, rfl, rfl, HO, HB⟩ := hrel
    by_cases hlt : k < tn
    · obtain ⟨bt, ot, row, A1, n1, c1, rfl, hbt, hrow, hn1, hcell, hints, hnil⟩ := HT.out.at_ (k := k) (by rw [HL.out]; exact hlt)
      have hd : wr.cell? ⟨bt, ot + k, none⟩ = some (.slice A1 n1 c1) := (HB.out.cell hbt).trans hcell
      have hbt2 : bt < wr.heap.size := Nat.lt_of_lt_of_le hbt HB.out.size
      have HROW := Lib.hid hrow
      have HN1 := Lib.hid hn1
      have h400 : n1 ≤ 400 := by rw [← hn1]; exact HR.out row (List.mem_of_getElem? hrow)
      have HI1 := Lib.hid (hints.below HB.out)
      have HNIL := Lib.hid hnil.1
      have hsz := HB.out.size
      clear hrow hn1 hcell hints hnil
      go_wp2_with (at_builtin; first
        | (refine wpList_own rfl _ _ rfl wr w.heap.size A1 c1 n1 row HN1.out (by omega) HI1.out hsz (fun q => (HNIL.out q).2) (by simp [Act.eval]) rfl ?_; intro A2 c2 w2 HO2 HB2; (have HO2' := Lib.hid HO2); (have HB2' := Lib.hid HB2); clear HO2 HB2)
        | (obtain ⟨vs, hv1, hv2⟩ := HO.out.below HB2'.out; (have HV2 := Lib.hid hv2); rw [List.length_take, HL.out, Nat.min_eq_left hk] at hv1; (have HVL := Lib.hid hv1.1);
           refine wpList_pushXs rfl _ _ 22 27 1 24 (.slice none 0 0) Tryd.underlying27 rows_cell_infoS rfl (by omega) (by omega) rfl rfl w2 w.heap.size k _ vs [.slice A2 n1 c2] hv1 rfl (by simp [Value.oneCell']) (by omega) (Nat.le_trans hsz HB2'.out.size) rfl rfl ?_; intro A3 c3 w3 HO3 HR3 HA3; (have HO3' := Lib.hid HO3); (have HR3' := Lib.hid HR3); clear HO3 HR3 HA3 hv1 hv2))
      have HB3 : Hid (Below w.heap.size w w3) := Lib.hid ((HB.out.trans (HB2'.out.mono hsz)).trans (HR3'.out.below (Nat.le_trans hsz HB2'.out.size)))
      have HT3 : Hid (OwnTr w3 w.heap.size (.slice A3 (k + 1) c3) (t.take (k + 1))) := Lib.hid (by
        refine ⟨vs ++ [.slice A2 n1 c2], ?_, fun j r hj => ?_⟩
        · rw [List.length_take, HL.out, Nat.min_eq_left (by omega)]
          exact HO3'.out
        · have hvl : vs.length = k := by have := HVL.out; omega
          rcases Nat.lt_or_ge j k with h1 | h1
          · rw [List.getElem?_take, if_pos (by omega)] at hj
            obtain ⟨A4, c4, e1, e2⟩ := HV2.out j r (by rw [List.getElem?_take, if_pos h1]; exact hj)
            exact ⟨A4, c4, by rw [List.getElem?_append_left (by omega)]; exact e1, HR3'.out.own e2 (by decide)⟩
          · rw [List.getElem?_take] at hj
            split at hj
            · obtain rfl : j = k := by omega
              rw [HROW.out] at hj
              injection hj with hj
              subst hj
              rw [HN1.out]
              exact ⟨A2, c2, by rw [← hvl]; simp, HR3'.out.own (HO2'.out.down hsz) (by decide)⟩
            · cases hj)
      go_roundw
      case rel => exact ⟨k + 1, A3, c3, by omega, by go_num, rfl, HT3, HB3⟩
      case measure => simp [intOf]; omega
    · obtain rfl : k = tn := by omega
      have HO2 := HO.out
      rw [List.take_of_length_le (by rw [HL.out]; omega)] at HO2
      obtain ⟨A2, c2, he, h1, h2, h3⟩ := HO2.open
      rw [HL.out] at he h2
      injection he with e1 e2 e3
      subst e1 e3
      have HX := Lib.hid (And.intro h1 h2)
      clear HO2 h1 h2 h3 e2
      go_wp2
      go_ret
      exact ⟨_, _, rfl, HX.out.1, HX.out.2, HB.out⟩
end
end Go.Proofs.YtpaambpajpmjdaaDoor
