import Derived.Test.YtlfekmbalgkmeaaGreatDoorXM37
set_option linter.unusedSimpArgs false
set_option linter.unnecessarySimpa false
set_option linter.unusedVariables false
namespace Go.Proofs.YtlfekmbalgkmeaaGreatDoor
open Go Go.RowKit
section
variable {B q b off n c b4 off4 ns ds j idx: Nat} {vL: Value} {es: List Shp} {s: Shp}
def PhiSg (B q b off n c b4 off4 ns ds j idx: Nat) (vL: Value) (es: List Shp) (s: Shp): Nat -> Value -> World -> Prop
 | 0,v,w => v = vL
 | 1,v,w => v = .pointer (some ⟨q,0,none⟩)
 | 2,v,w => v = .slice (some ⟨b,off,none⟩) n c
 | 3,v,w => v = .slice (some ⟨b4,off4,none⟩) ns ds
 | 4,v,w => v = .int .i64 j
 | 5,v,w => v = .pointer (some ⟨b4,off4 + j,none⟩)
 | 6,v,w => v = .int .i64 idx
 | 7,v,w => v = .pointer (some ⟨b,off + idx * 5,none⟩)
 | 8,v,w => v = .agg #[.int .i64 s.t,.int .i64 s.l,.int .i64 s.m,.int .i64 s.d,.int .i64 s.p]
 | 9,v,w => ∃ e,v = .slice (some ⟨e,0,none⟩) 1 1 /\ w.heap[e]? = some (.cells (shpC s).toArray 44 (0,0)) /\ vL.ownBlock ≠ some e
 | 10,v,w => ∃ F d,v = .slice F (j + 1) d /\ OwnS w B (.slice F (j + 1) d) (es ++ [s])
 | 11,v,w => ∃ F d,v = .slice F (j + 1) d /\ OwnS w B (.slice F (j + 1) d) (es ++ [s])
 | _,_,_ => True
def PreSg (B: Nat) (vL: Value) (es: List Shp): Nat -> World -> Prop
 | 10,w => OwnS w B vL es
 | _,_ => True
def RSg (B: Nat) (vL: Value) (es: List Shp): Nat -> World -> World -> Prop
 | 10,w,w' => OwnS w B vL es /\ w.grownBy w' vL.ownBlock
 | _,w,w' => Below w.heap.size w w'
theorem rSg_ways {i: Nat} {w w': World} (h: RSg B vL es i w w'): (i = 10 /\ OwnS w B vL es /\ w.grownBy w' vL.ownBlock) \/ (i ≠ 10 /\ Below w.heap.size w w'):=by
 by_cases h10: i = 10
 ·subst h10; exact .inl ⟨rfl,h⟩
 ·refine .inr ⟨h10,?_⟩
  unfold RSg at h
  split at h
  ·exact absurd rfl h10
  ·exact h
theorem phiSg_keep {i k : Nat} {v : Value} {w w' : World} (hki : k ≠ i) (hx : ¬ (k = 11 /\ i = 10)) (h : PhiSg B q b off n c b4 off4 ns ds j idx vL es s k v w) (hr : RSg B vL es i w w') : PhiSg B q b off n c b4 off4 ns ds j idx vL es s k v w' := by
  match k, h with
  | 0, h => exact h
  | 1, h => exact h
  | 2, h => exact h
  | 3, h => exact h
  | 4, h => exact h
  | 5, h => exact h
  | 6, h => exact h
  | 7, h => exact h
  | 8, h => exact h
  | 9, ⟨e, h1, h2, h3⟩ =>
    rcases rSg_ways hr with ⟨_, _, hg⟩ | ⟨_, hb⟩
    · exact ⟨e, h1, heap_grown hg h2 h3, h3⟩
    · exact ⟨e, h1, heap_below hb h2, h3⟩
  | 10, ⟨F, d, h1, h2⟩ =>
    rcases rSg_ways hr with ⟨rfl, _, _⟩ | ⟨_, hb⟩
    · exact absurd rfl hki
    · exact ⟨F, d, h1, own_below h2 hb⟩
  | 11, ⟨F, d, h1, h2⟩ =>
    rcases rSg_ways hr with ⟨rfl, _, _⟩ | ⟨_, hb⟩
    · exact absurd ⟨rfl, rfl⟩ hx
    · exact ⟨F, d, h1, own_below h2 hb⟩
  | k + 12, h => exact trivial
end
theorem AdmOk.core {Ts: List Task} {m: Int} {S: List Shp} {C: List (List Int)} {L: List Int} (h: AdmOk Ts m S C L) {x: Int} (h0: 0 <= x) (h1: x < m) :
  (0 < (lightQ S C x).length -> usedP S <= x) /\ FitE (shpsL S (lightQ S C x)) /\ (∀ (j y: Nat),(lightQ S C x)[j]? = some y -> ∃ s,S[y]? = some s /\ shpsL S ((lightQ S C x).take (j + 1)) = shpsL S ((lightQ S C x).take j) ++ [s]):=by
 have e: shpsL S (lightQ S C x) = onL S C x:=by
  have h2:=light_is S C x (min S.length C.length) (Nat.min_le_left ..) (Nat.min_le_right ..)
  rw [onL_min] at h2
  exact h2
 have hl: (shpsL S (lightQ S C x)).length = (lightQ S C x).length:=light_len S C x _ (Nat.min_le_left ..)
 refine ⟨fun hp => h.behind (k:=x) fun q => ?_,by rw [e]; exact (h.right.enough x h0 h1).2.2,fun j y hj => ?_⟩
 ·rw [e,q] at hl
  simp at hl
  omega
 ·have hy: y < S.length:=by
   have hm:=List.mem_of_getElem? hj
   have:=ownT_lt (List.mem_filter.mp hm).1
   omega
  refine ⟨S[y],List.getElem?_eq_getElem hy,?_⟩
  rw [take_one hj]
  unfold shpsL
  rw [List.filterMap_append]
  congr 1
  simp [List.filterMap_cons,List.getElem?_eq_getElem hy]
theorem shpsL_len {S : List Shp} : ∀ {l : List Nat}, (∀ i ∈ l, i < S.length) -> (shpsL S l).length = l.length
  | [], _ => rfl
  | i :: l, h => by
    have ih := shpsL_len (l := l) fun x hx => h x (List.mem_cons_of_mem _ hx)
    unfold shpsL at ih ⊢
    rw [List.filterMap_cons, List.getElem?_eq_getElem (h i (by simp))]
    simp [ih]
theorem lightQ_lt17 {S: List Shp} {C: List (List Int)} {x: Int}: ∀ i ∈ lightQ S C x,i < S.length:=fun i hi => by
 have:=ownT_lt (List.mem_filter.mp hi).1
 omega
theorem lightQ_le (S: List Shp) (C: List (List Int)) (x: Int): (lightQ S C x).length <= S.length:=by
 have h1:=List.length_filter_le (ltT S) (owns S C x)
 have h2:=ownT_len C x (min S.length C.length)
 unfold lightQ
 unfold owns at h1 ⊢
 omega
theorem nums_at17 {l: List Nat} {j: Nat} {z: Int} (h: (nums l)[j]? = some z): ∃ y: Nat,l[j]? = some y /\ z = (y: Int):=by
 unfold nums at h
 rw [List.getElem?_map] at h
 cases hl: l[j]? with
 | none => rw [hl] at h; cases h
 | some y => rw [hl] at h; exact ⟨y,rfl,(Option.some.inj h).symm⟩
end Go.Proofs.YtlfekmbalgkmeaaGreatDoor
