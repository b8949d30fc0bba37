/- Words for memory in the seat YtohgdeddepfanaaDoor: a list of edges of the call's own; 'append([]T{}, l...)' leaves all that was there. No statement is proved here. -/
import Derived.Test.YtohgdeddepfanaaDoorOwn
import Derived.Test.YtohgdeddepfanaaDoorPairs
import Derived.ArgAppend
import Derived.OwnWalk
set_option linter.unusedVariables false
namespace Go.Proofs.YtohgdeddepfanaaDoor
open Go.RowKit

def flatE (es : List (Int × Int)) : List Value := es.flatMap fun e => [.int .i64 e.1, .int .i64 e.2]
theorem flatE_length (es : List (Int × Int)) : (flatE es).length = es.length * 2 := by
  induction es with
  | nil => rfl
  | cons e es ih =>
    rw [show flatE (e :: es) = .int .i64 e.1 :: .int .i64 e.2 :: flatE es from rfl, List.length_cons, List.length_cons, List.length_cons, ih]
    omega
theorem flatE_append (a b : List (Int × Int)) : flatE (a ++ b) = flatE a ++ flatE b := by unfold flatE; rw [List.flatMap_append]
theorem flatE_at : ∀ {es : List (Int × Int)} {k : Nat} {e : Int × Int}, es[k]? = some e → (flatE es)[k * 2]? = some (.int .i64 e.1) ∧ (flatE es)[k * 2 + 1]? = some (.int .i64 e.2)
  | [], k, e, h => by simp at h
  | x :: es, 0, e, h => by
    obtain rfl : x = e := by simpa using h
    exact ⟨rfl, rfl⟩
  | x :: es, k + 1, e, h => by
    have ih := flatE_at (es := es) (k := k) (e := e) (by simpa using h)
    have e1 : flatE (x :: es) = .int .i64 x.1 :: .int .i64 x.2 :: flatE es := rfl
    rw [e1, show (k + 1) * 2 = k * 2 + 1 + 1 by omega]
    simp only [List.getElem?_cons_succ]
    exact ih
theorem flatE_cell {es : List (Int × Int)} {j : Nat} {u : Value} (h : (flatE es)[j]? = some u) : ∃ e, es[j / 2]? = some e ∧ ((j % 2 = 0 ∧ u = .int .i64 e.1) ∨ (j % 2 = 1 ∧ u = .int .i64 e.2)) := by
  have hj : j < es.length * 2 := by
    rw [← flatE_length]
    rcases Nat.lt_or_ge j (flatE es).length with h1 | h1
    · exact h1
    · rw [List.getElem?_eq_none h1] at h; cases h
  have hk : es[j / 2]? = some es[j / 2] := List.getElem?_eq_getElem (by omega)
  refine ⟨_, hk, ?_⟩
  obtain ⟨h1, h2⟩ := flatE_at hk
  rcases Nat.mod_two_eq_zero_or_one j with h0 | h0
  · rw [show j / 2 * 2 = j by omega, h] at h1
    exact .inl ⟨h0, Option.some.inj h1⟩
  · rw [show j / 2 * 2 + 1 = j by omega, h] at h2
    exact .inr ⟨h0, Option.some.inj h2⟩
theorem flatE_one (es : List (Int × Int)) : ∀ u ∈ flatE es, u.oneCell' = true := by
  intro u hu
  unfold flatE at hu
  obtain ⟨e, _, h⟩ := List.mem_flatMap.mp hu
  rcases (by simpa using h : u = .int .i64 e.1 ∨ u = .int .i64 e.2) with rfl | rfl <;> rfl
theorem Pairs.news {w : World} {B : Nat} {ad : Addr} {es : List (Int × Int)} (h : Pairs w B (some ad) es) : ∀ j u, (flatE es)[j]? = some u → w.cell? (ad.add j) = some u := by
  intro j u hu
  obtain ⟨e, he, hu2⟩ := flatE_cell hu
  have hl : 0 < es.length := by
    cases es with
    | nil => simp at he
    | cons _ _ => simp
  obtain ⟨b, off, hA, _, hc⟩ := h hl
  injection hA with hA
  subst hA
  rw [addr_add]
  obtain ⟨c1, c2⟩ := hc _ _ he
  rcases hu2 with ⟨h0, rfl⟩ | ⟨h0, rfl⟩
  · rw [show off + j = off + j / 2 * 2 by omega]
    exact c1
  · rw [show off + j = off + j / 2 * 2 + 1 by omega]
    exact c2
theorem Pairs.none_nil {w : World} {B : Nat} {es : List (Int × Int)} (h : Pairs w B none es) : es = [] := by
  rcases Nat.eq_zero_or_pos es.length with h0 | h0
  · exact List.eq_nil_of_length_eq_zero h0
  · obtain ⟨_, _, e, _⟩ := h h0
    cases e
theorem own_below {w w' : World} {base : Nat} {e : TypeId} {s n : Nat} {v : Value} {xs : List Value} (h : w.ownsRow base e s v n xs) (hb : Below w.heap.size w w') : w'.ownsRow base e s v n xs := by
  refine ⟨h.1, ?_⟩
  rcases h.2 with hn | ⟨g, cap, cur, rfl, hg, hgg, rest⟩
  · exact .inl hn
  · exact .inr ⟨g, cap, cur, rfl, hg, by rw [hb.block g (Array.getElem?_eq_some_iff.1 hgg).1]; exact hgg, rest⟩
theorem own_less {w : World} {base base' : Nat} {e : TypeId} {s n : Nat} {v : Value} {xs : List Value} (h : w.ownsRow base e s v n xs) (hb : base' ≤ base) : w.ownsRow base' e s v n xs := by
  refine ⟨h.1, ?_⟩
  rcases h.2 with hn | ⟨g, cap, cur, rfl, hg, rest⟩
  · exact .inl hn
  · exact .inr ⟨g, cap, cur, rfl, by omega, rest⟩
/-- 'append([]T{}, l...)': a new row; all that was there is as it was. -/
theorem fresh_append {P : Program} (w : World) (t ty e : TypeId) (i : TypeInfo) (z : Value) (size bytes : Nat) (ht : P.underlying t = some (.slice e)) (hi : P.info? e = some i) (hz : i.zero = some z)
    (hsize : i.size = size) (hby : i.bytes = bytes) (hzs : z.cells.size = size) (hsz : 0 < size) (base g : Nat) (hg : w.heap[g]? = some (.cells #[] e (0, 0))) (hbg : base ≤ g) (hbw : base ≤ w.heap.size)
    (A : Option Addr) (len c : Nat) (news : List Value) (hl : news.length = len * size) (hA : A = none → len = 0 ∧ c = 0) (hnews : ∀ ad, A = some ad → ∀ j u, news[j]? = some u → w.cell? (ad.add j) = some u) (h1 : ∀ u ∈ news, u.oneCell' = true)
    (h63 : len ≤ maxLen) (hbytes : len * bytes ≤ 140737488355328) :
    ∃ v' w', (Builtin.append_ #[t, t] ty #[.slice (some ⟨g, 0, none⟩) 0 0, .slice A len c]).run P w = .ok v' w' ∧ w'.ownsRow base e size v' len news ∧ Below w.heap.size w w' := by
  have hown : w.ownsRow base e size (.slice (some ⟨g, 0, none⟩) 0 0) 0 [] := ⟨by simp, .inr ⟨g, 0, #[], rfl, hbg, hg, Nat.le_refl _, by simp [maxLen], by simp, by simp⟩⟩
  cases A with
  | none =>
    obtain ⟨rfl, rfl⟩ := hA rfl
    obtain rfl : news = [] := List.eq_nil_of_length_eq_zero (by simpa using hl)
    exact ⟨_, w, run_append_owned_none w base t ty e i size ht hi _ 0 [] hown, hown, Below.refl _ _⟩
  | some ad =>
    rcases Nat.eq_zero_or_pos len with h0 | h0
    · subst h0
      obtain rfl : news = [] := List.eq_nil_of_length_eq_zero (by simpa using hl)
      have hr := run_append_room (P := P) w t ty e i ht hi g 0 0 #[] hg ad 0 c [] (by simp) (fun j u h => by simp at h) (fun u h => by simp at h) (by omega) (by simp)
      refine ⟨_, _, hr, ?_, ?_⟩
      · exact ⟨by simp, .inr ⟨g, 0, _, rfl, hbg, setRow_heap w g _ _ e _ hg, Nat.le_refl _, by simp [maxLen], by simp, by simp⟩⟩
      · refine ⟨rfl, rfl, rfl, by simp, fun k _ => ?_⟩
        by_cases hk : k = g
        · subst hk
          rw [setRow_heap w k _ _ e _ hg, hg]
          simp
        · exact setRow_other w g k _ hk
    · obtain ⟨v', w', hr, ho, hgr⟩ := run_append_arg_grows (P := P) w t ty e i z size bytes ht hi hz hsize hby hzs hsz ⟨g, 0, none⟩ 0 0 [] (by simp) (fun j u h => by simp at h) ad len c news hl (hnews ad rfl) (by omega) (by omega) (by simpa using hbytes)
      rw [Nat.zero_add, List.nil_append] at ho
      exact ⟨v', w', hr, own_less ho hbw, ⟨hgr.os, hgr.tape, hgr.output, hgr.size, fun k hk => hgr.block k hk (by simp)⟩⟩
end Go.Proofs.YtohgdeddepfanaaDoor
