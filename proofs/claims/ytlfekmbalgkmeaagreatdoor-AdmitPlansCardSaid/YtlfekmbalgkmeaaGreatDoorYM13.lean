import Derived.Test.YtlfekmbalgkmeaaGreatDoorYM12
import Derived.Test.YtlfekmbalgkmeaaGreatDoorYM3
import Derived.Test.YtlfekmbalgkmeaaGreatDoorYM8
import Derived.Test.YtlfekmbalgkmeaaGreatDoorYM7
import Derived.Deep.AppendLies
set_option linter.unusedSimpArgs false
set_option linter.unnecessarySimpa false
set_option linter.unusedVariables false
namespace Go.Proofs.YtlfekmbalgkmeaaGreatDoor
open Go.RowKit
@[reducible] def Sh.arg (s: Sh) (p q: Int): Value:=.agg #[.int .i64 p,.int .i64 q,.slice s.P s.np s.pc,.slice s.E s.ne s.ec,.slice s.F s.nf s.fc,.slice s.R s.nr s.rc]
def ManyT (T: Task): Prop:=T.parts.length < 1 \/ 16 < T.parts.length \/ 48 < T.edges.length \/ 16 < T.futures.length \/ 4 < T.bars.length
open Classical in
noncomputable def chkT (T: Task): Int :=
 if ManyT T then 50 else if timeE T.period T.deadline = false then 51 else if ¬ partsOk T.parts then 52 else if ¬ EdgesOk T.parts.length T.edges then 53 else if ¬ FutsOk T.parts T.futures then 54 else if ¬ BarsOk T.parts.length T.bars then 55 else 0
structure MayT (T: Task): Prop where
 few: ¬ ManyT T
 time: timeE T.period T.deadline = true
 parts: partsOk T.parts
 edges: EdgesOk T.parts.length T.edges
 futures: FutsOk T.parts T.futures
 bars: BarsOk T.parts.length T.bars
theorem chkT_zero {T: Task}: chkT T = 0 ↔ MayT T:=by
 unfold chkT
 constructor
 ·intro h
  split at h
  ·cases h
  ·rename_i h0
   split at h
   ·cases h
   ·rename_i h1
    split at h
    ·cases h
    ·rename_i h2
     split at h
     ·cases h
     ·rename_i h3
      split at h
      ·cases h
      ·rename_i h4
       split at h
       ·cases h
       ·rename_i h5
        exact ⟨h0,by simpa using h1,Classical.not_not.mp h2,Classical.not_not.mp h3,Classical.not_not.mp h4,Classical.not_not.mp h5⟩
 ·rintro ⟨h0,h1,h2,h3,h4,h5⟩
  rw [if_neg h0,if_neg (by rw [h1]; exact fun k => Bool.noConfusion k),if_neg (fun k => k h2),if_neg (fun k => k h3),if_neg (fun k => k h4),if_neg (fun k => k h5)]
structure FewT (T: Task): Prop where
 np: T.parts.length <= 400
 ne: T.edges.length <= 400
 nf: T.futures.length <= 400
 nr: T.bars.length <= 400
 bars: ∀ b ∈ T.bars,b.1.length <= 400 /\ b.2.length <= 400
section
variable {P: Option Addr} {np pc: Nat} {E: Option Addr} {ne ec: Nat} {F: Option Addr} {nf fc: Nat} {R: Option Addr} {nr rc: Nat} {p q: Int} {T: Task}
end
def flatT (es: List (Int × Int × Int)): List Value:=es.flatMap fun e => [.int .i64 e.1,.int .i64 e.2.1,.int .i64 e.2.2]
theorem flatT_length (es : List (Int × Int × Int)) : (flatT es).length = es.length * 3 := by
  induction es with
  | nil => rfl
  | cons e es ih =>
    rw [show flatT (e :: es) = .int .i64 e.1 :: .int .i64 e.2.1 :: .int .i64 e.2.2 :: flatT es from rfl, List.length_cons, List.length_cons, List.length_cons, List.length_cons, ih]
    omega
theorem flatT_at : ∀ {es : List (Int × Int × Int)} {k : Nat} {e : Int × Int × Int}, es[k]? = some e -> (flatT es)[k * 3]? = some (.int .i64 e.1) /\ (flatT es)[k * 3 + 1]? = some (.int .i64 e.2.1) /\ (flatT es)[k * 3 + 2]? = some (.int .i64 e.2.2)
  | [], k, e, h => by simp at h
  | x :: es, 0, e, h => by
    obtain rfl : x = e := by simpa using h
    exact ⟨rfl, rfl, rfl⟩
  | x :: es, k + 1, e, h => by
    have ih := flatT_at (es := es) (k := k) (e := e) (by simpa using h)
    have e1 : flatT (x :: es) = .int .i64 x.1 :: .int .i64 x.2.1 :: .int .i64 x.2.2 :: flatT es := rfl
    rw [e1, show (k + 1) * 3 = k * 3 + 1 + 1 + 1 by omega]
    simp only [List.getElem?_cons_succ]
    exact ih
theorem flatT_cell {es: List (Int × Int × Int)} {j: Nat} {u: Value} (h: (flatT es)[j]? = some u): ∃ e,es[j / 3]? = some e /\ ((j % 3 = 0 /\ u = .int .i64 e.1) \/ (j % 3 = 1 /\ u = .int .i64 e.2.1) \/ (j % 3 = 2 /\ u = .int .i64 e.2.2)):=by
 have hj: j < es.length * 3:=by
  rw [<- flatT_length]
  rcases Nat.lt_or_ge j (flatT es).length with h1 | h1
  ·exact h1
  ·rw [List.getElem?_eq_none h1] at h; cases h
 have hk: es[j / 3]? = some es[j / 3]:=List.getElem?_eq_getElem (by omega)
 refine ⟨_,hk,?_⟩
 obtain ⟨h1,h2,h3⟩:=flatT_at hk
 rcases (show j % 3 = 0 \/ j % 3 = 1 \/ j % 3 = 2 by omega) with h0 | h0 | h0
 ·rw [show j / 3 * 3 = j by omega,h] at h1
  exact .inl ⟨h0,Option.some.inj h1⟩
 ·rw [show j / 3 * 3 + 1 = j by omega,h] at h2
  exact .inr (.inl ⟨h0,Option.some.inj h2⟩)
 ·rw [show j / 3 * 3 + 2 = j by omega,h] at h3
  exact .inr (.inr ⟨h0,Option.some.inj h3⟩)
theorem Trips.news {w: World} {B: Nat} {ad: Addr} {es: List (Int × Int × Int)} (h: Trips w B (some ad) es): ∀ j u,(flatT es)[j]? = some u -> w.cell? (ad.add j) = some u:=by
 intro j u hu
 obtain ⟨e,he,hu2⟩:=flatT_cell hu
 have hl: 0 < es.length:=by
  cases es with
  | nil => simp at he
  | cons _ _ => simp
 obtain ⟨b,off,hA,_,hc⟩:=h hl
 injection hA with hA
 subst hA
 rw [addr_add]
 obtain ⟨c1,c2,c3⟩:=hc _ _ he
 rcases hu2 with ⟨h0,rfl⟩ | ⟨h0,rfl⟩ | ⟨h0,rfl⟩
 ·rw [show off + j = off + j / 3 * 3 by omega]
  exact c1
 ·rw [show off + j = off + j / 3 * 3 + 1 by omega]
  exact c2
 ·rw [show off + j = off + j / 3 * 3 + 2 by omega]
  exact c3
theorem info_parts5 {P : Program} {t : TypeId} {z : Value} {s b : Nat} (h : (P.info? t).map (fun i => (i.zero, i.size, i.bytes)) = some (some z, s, b)) : ∃ i, P.info? t = some i /\ i.zero = some z /\ i.size = s /\ i.bytes = b := by
  cases hi : P.info? t with
  | none => rw [hi] at h; cases h
  | some i =>
    rw [hi] at h
    simp at h
    exact ⟨i, rfl, h.1, h.2.1, h.2.2⟩
theorem other_own {w w': World} {base: Nat} {e t: TypeId} {s n g: Nat} {v: Value} {xs: List Value} {cs: Array Value} (h: w.ownsRow base e s v n xs) (hg: w.heap[g]? = some (.cells cs t (0,0))) (ht: e ≠ t) (hk: ∀ k,k ≠ g -> w'.heap[k]? = w.heap[k]?): w'.ownsRow base e s v n xs:=by
 refine ⟨h.1,?_⟩
 rcases h.2 with hn | ⟨g',cap,cur,rfl,hg',hgg,rest⟩
 ·exact .inl hn
 ·refine .inr ⟨g',cap,cur,rfl,hg',?_,rest⟩
  rw [hk g' (fun e1 => by
   subst e1
   rw [hg] at hgg
   injection hgg with hgg
   injection hgg with _ h2 _
   exact ht h2.symm)]
  exact hgg
end Go.Proofs.YtlfekmbalgkmeaaGreatDoor
