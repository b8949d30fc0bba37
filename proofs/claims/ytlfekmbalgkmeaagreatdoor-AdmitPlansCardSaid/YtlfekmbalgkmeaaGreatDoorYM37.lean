import Derived.Test.YtlfekmbalgkmeaaGreatDoorYM29
import Derived.Test.YtlfekmbalgkmeaaGreatDoorYM30
import Derived.KernelRfl
import Derived.Test.YtlfekmbalgkmeaaGreatDoorYM34
import Derived.Test.YtlfekmbalgkmeaaGreatDoorYM31
import Derived.Test.YtlfekmbalgkmeaaGreatDoorYM36
set_option linter.unusedSimpArgs false
set_option linter.unnecessarySimpa false
set_option linter.unusedVariables false
namespace Go.Proofs.YtlfekmbalgkmeaaGreatDoor
open Go Go.RowKit
theorem own_slice {w: World} {b: Nat} {e: TypeId} {s n: Nat} {v: Value} {xs: List Value} (h: w.ownsRow b e s v n xs): ∃ F d,v = .slice F n d:=by
 rcases h.2 with ⟨rfl,h0⟩ | ⟨g,cap,cur,rfl,_⟩
 ·exact ⟨none,0,by rw [h0]⟩
 ·exact ⟨_,_,rfl⟩
theorem grown_set {w: World} {q k: Nat} (x: Value): w.grownBy (w.setCell ⟨q,k,none⟩ x) (some q) :=
 ⟨rfl,rfl,rfl,by simp,fun t _ hne => Below.heap_setCell w ⟨q,k,none⟩ x t (fun e => hne (by rw [e]))⟩
theorem grown_below {w w': World} (h: Below w.heap.size w w'): w.grownBy w' none:=⟨h.os,h.tape,h.output,h.size,fun k hk _ => h.block k hk⟩
def OwnC (w: World) (B: Nat) (v: Value) (L: List Value): Prop:=w.ownsRow B 40 1 v L.length L
def EachC (w: World) (B: Nat) (L: List Value) (C: List (List Int)): Prop:=∀ (k: Nat) x r,L[k]? = some x -> C[k]? = some r -> ∃ F d,x = .slice F r.length d /\ OwnI w B x r
theorem ints_ne: (3: TypeId) ≠ 40:=by decide
theorem plan_ne1: (40: TypeId) ≠ 28:=by decide
theorem plan_ne2: (3: TypeId) ≠ 28:=by decide
theorem plan_ne3: (44: TypeId) ≠ 28:=by decide
theorem EachC.grown {w w': World} {B: Nat} {L: List Value} {C: List (List Int)} {row: Option Nat} (h: EachC w B L C) (hg: w.grownBy w' row) (hr: ∀ e,row = some e -> ∃ cs ty,w.heap[e]? = some (.cells cs ty (0,0)) /\ 3 ≠ ty): EachC w' B L C:=fun k x r hx hc => by
 obtain ⟨F,d,e,hO⟩:=h k x r hx hc
 refine ⟨F,d,e,own_grown hO hg fun g hv e2 => ?_⟩
 obtain ⟨cs,ty,h1,h2⟩:=hr g e2
 exact own_ne hO h1 h2 hv
theorem slices_info17: (Tryz.prog.info? 40).map (fun i => (i.zero,i.size,i.bytes)) = some (some (.slice none 0 0),1,24):=by kernel_rfl
theorem slices_info : ∃ i, Tryz.prog.info? 40 = some i /\ i.zero = some (.slice none 0 0) /\ i.size = 1 /\ i.bytes = 24 := by
  have h := slices_info17
  cases hi : Tryz.prog.info? 40 with
  | none => rw [hi] at h; cases h
  | some i =>
    rw [hi] at h
    simp at h
    exact ⟨i, rfl, h.1, h.2.1, h.2.2⟩
theorem push_list {w : World} {base b j : Nat} {v x : Value} {L : List Value} (hL : L.length = j) (hO : OwnC w base v L) (hb : w.heap[b]? = some (.cells #[x] 40 (0, 0))) (hx : x.oneCell' = true) (hl : j <= 900) (hB : base <= w.heap.size) :
    ∃ F d w', (Builtin.append_ #[26, 26] 26 #[v, .slice (some ⟨b, 0, none⟩) 1 1]).run Tryz.prog w = .ok (.slice F (j + 1) d) w' /\ OwnC w' base (.slice F (j + 1) d) (L ++ [x]) /\ w.grownBy w' v.ownBlock := by
  obtain ⟨i0, hi0, hz0, hz1, hz2⟩ := slices_info
  obtain ⟨v', w', hr, ho, hg, -⟩ := run_append_own (P := Tryz.prog) w base 26 26 40 i0 (.slice none 0 0) 1 24 Tryz.underlying26 hi0 hz0 hz1 hz2 rfl (by decide) v L.length L hO ⟨b, 0, none⟩ 1 1 [x] rfl
    (fun j u hj => by
      match j with
      | 0 =>
        obtain rfl : x = u := by simpa using hj
        rw [addr_add]
        exact cell_of_row _ _ _ _ _ _ hb ▸ rfl
      | j + 1 => simp at hj) (fun u hu => by obtain rfl : u = x := by simpa using hu
                                             exact hx) (by unfold maxLen; omega) (by omega) hB
  have hO' : OwnC w' base v' (L ++ [x]) := by
    unfold OwnC
    rw [List.length_append, List.length_singleton]
    exact ho
  obtain ⟨F, d, rfl⟩ := own_slice ho
  rw [hL] at hr hO'
  exact ⟨F, d, w', hr, hO', hg⟩
structure IPn (wf: World) (B g: Nat) (p1 p2: Value) (vS: Value) (S: List Shp) (L: List Value) (C: List (List Int)) (w: World): Prop where
 bel: Below B wf w
 src: RowV g 28 [p1,p2] w
 shp: OwnS w B vS S
 each: EachC w B L C
theorem IPn.grown {wf w w': World} {B g: Nat} {p1 p2 vS: Value} {S: List Shp} {L: List Value} {C: List (List Int)} {row: Option Nat} (h: IPn wf B g p1 p2 vS S L C w) (hg: w.grownBy w' row) (hB: B <= w.heap.size) (hr: ∀ e,row = some e -> B <= e /\ e ≠ g /\ ∃ cs ty,w.heap[e]? = some (.cells cs ty (0,0)) /\ (ty = 40 \/ ty = 28)): IPn wf B g p1 p2 vS S L C w':=by
 refine ⟨h.bel.grown hg hB (fun e he => (hr e he).1),heap_grown hg h.src (fun e => (hr _ e).2.1 rfl),own_grown h.shp hg fun e hv e2 => ?_,h.each.grown hg fun e he => ?_⟩
 ·obtain ⟨_,_,cs,ty,h1,h2⟩:=hr e e2
  exact own_ne h.shp h1 (by rcases h2 with rfl | rfl <;> decide) hv
 ·obtain ⟨_,_,cs,ty,h1,h2⟩:=hr e he
  exact ⟨cs,ty,h1,by rcases h2 with rfl | rfl <;> decide⟩
section
variable {wf: World} {B g q j: Nat} {vS vG: Value} {G: Option Addr} {m d b off: Nat} {A1: Option Addr} {n1 c1: Nat} {cj: List Int} {S: List Shp} {L: List Value} {C: List (List Int)}
def PhiPn (B g q j: Nat) (vS vG: Value) (G: Option Addr) (m d b off: Nat) (A1: Option Addr) (n1 c1: Nat) (cj: List Int) (L: List Value): Nat -> Value -> World -> Prop
 | 0,v,w => v = .pointer (some ⟨q,1,none⟩)
 | 1,v,w => v = vG
 | 2,v,w => ∃ e,v = .slice (some ⟨e,0,none⟩) 0 0 /\ w.heap[e]? = some (.cells #[] 3 (0,0)) /\ B <= e
 | 3,v,w => v = .pointer (some ⟨g,1,none⟩)
 | 4,v,w => v = .slice G m d
 | 5,v,w => v = .int .i64 j
 | 6,v,w => v = .pointer (some ⟨b,off + j,none⟩)
 | 7,v,w => v = .slice A1 n1 c1
 | 8,v,w => ∃ F k,v = .slice F n1 k /\ OwnI w B (.slice F n1 k) cj
 | 9,v,w => ∃ e F k,v = .slice (some ⟨e,0,none⟩) 1 1 /\ w.heap[e]? = some (.cells #[.slice F n1 k] 40 (0,0)) /\ vG.ownBlock ≠ some e /\ OwnI w B (.slice F n1 k) cj
 | 10,v,w => ∃ F k F1 k1,v = .slice F (j + 1) k /\ OwnC w B (.slice F (j + 1) k) (L ++ [.slice F1 n1 k1]) /\ OwnI w B (.slice F1 n1 k1) cj
 | 11,v,w => v = .pointer (some ⟨q,1,none⟩)
 | 12,v,w => ∃ F k F1 k1,RowV q 28 [vS,.slice F (j + 1) k] w /\ OwnC w B (.slice F (j + 1) k) (L ++ [.slice F1 n1 k1]) /\ OwnI w B (.slice F1 n1 k1) cj
 | _,_,_ => True
def PrePn (B q: Nat) (vS vG: Value) (L: List Value): Nat -> World -> Prop
 | 1,w => RowV q 28 [vS,vG] w
 | 10,w => OwnC w B vG L
 | 12,w => RowV q 28 [vS,vG] w
 | _,_ => True
def RPn (B q: Nat) (vS vG: Value) (L: List Value): Nat -> World -> World -> Prop
 | 10,w,w' => OwnC w B vG L /\ w.grownBy w' vG.ownBlock
 | 12,w,w' => RowV q 28 [vS,vG] w /\ ∃ x,w' = w.setCell ⟨q,1,none⟩ x
 | _,w,w' => Below w.heap.size w w'
theorem rPn_ways {i: Nat} {w w': World} (h: RPn B q vS vG L i w w'): (i = 10 /\ OwnC w B vG L /\ w.grownBy w' vG.ownBlock) \/ (i = 12 /\ RowV q 28 [vS,vG] w /\ ∃ x,w' = w.setCell ⟨q,1,none⟩ x) \/ (i ≠ 10 /\ i ≠ 12 /\ Below w.heap.size w w'):=by
 by_cases h10: i = 10
 ·subst h10; exact .inl ⟨rfl,h⟩
 ·by_cases h12: i = 12
  ·subst h12; exact .inr (.inl ⟨rfl,h⟩)
  ·refine .inr (.inr ⟨h10,h12,?_⟩)
   unfold RPn at h
   split at h
   ·exact absurd rfl h10
   ·exact absurd rfl h12
   ·exact h
theorem rPn_grown {i: Nat} {w w': World} (hq: B <= q) (hqg: q ≠ g) (hgv: ∀ e,vG.ownBlock = some e -> e ≠ g) (h: RPn B q vS vG L i w w'): ∃ row,w.grownBy w' row /\ ∀ e,row = some e -> B <= e /\ e ≠ g /\ ∃ cs ty,w.heap[e]? = some (.cells cs ty (0,0)) /\ (ty = 40 \/ ty = 28):=by
 rcases rPn_ways h with ⟨_,hO,hg⟩ | ⟨_,hR,x,rfl⟩ | ⟨_,_,hb⟩
 ·refine ⟨_,hg,fun e he => ?_⟩
  obtain ⟨h1,cur,h2⟩:=own_at hO he
  exact ⟨h1,hgv e he,cur,_,h2,.inl rfl⟩
 ·refine ⟨_,grown_set x,fun e he => ?_⟩
  injection he with he
  subst he
  exact ⟨hq,hqg,_,_,hR,.inr rfl⟩
 ·exact ⟨none,grown_below hb,fun e he => by cases he⟩
theorem own_step {ty: TypeId} {sz n: Nat} {v: Value} {xs: List Value} {i: Nat} {w w': World} (hO: w.ownsRow B ty sz v n xs) (h1: ty ≠ 40) (h2: ty ≠ 28) (h: RPn B q vS vG L i w w'): w'.ownsRow B ty sz v n xs:=by
 rcases rPn_ways h with ⟨_,hG,hg⟩ | ⟨_,hR,x,rfl⟩ | ⟨_,_,hb⟩
 ·exact own_grown hO hg (fun g hv => own_apart hO hG h1 g hv)
 ·refine own_grown hO (grown_set x) fun g hv e => ?_
  injection e with e
  subst e
  exact own_ne hO hR h2 hv
 ·exact own_below hO hb
theorem phiPn_keep {i k : Nat} {v : Value} {w w' : World} (hki : k ≠ i) (hx : ¬ (k = 12 /\ i = 10)) (hx2 : ¬ (k = 11 /\ i = 10)) (hy : ¬ (k = 12 /\ i = 12)) (h : PhiPn B g q j vS vG G m d b off A1 n1 c1 cj L k v w) (hr : RPn B q vS vG L i w w') : PhiPn B g q j vS vG G m d b off A1 n1 c1 cj L k v w' := by
  have hl : ∀ {e : Nat} {cs : Array Value} {ty : TypeId}, w.heap[e]? = some (.cells cs ty (0, 0)) -> ty ≠ 28 -> (ty = 40 -> vG.ownBlock ≠ some e) -> w'.heap[e]? = some (.cells cs ty (0, 0)) := fun {e cs ty} he hty hne => by
    rcases rPn_ways hr with ⟨_, hG, hg⟩ | ⟨_, hR, x, rfl⟩ | ⟨_, _, hb⟩
    · refine heap_grown hg he fun e2 => ?_
      by_cases h3 : ty = 40
      · exact hne h3 e2
      · exact own_ne hG he (fun z => h3 z.symm) e2
    · refine heap_grown (grown_set x) he fun e2 => ?_
      injection e2 with e2
      subst e2
      unfold RowV at hR
      rw [he] at hR
      injection hR with hR
      injection hR with _ hR
      exact hty hR
    · exact heap_below hb he
  match k, h with
  | 0, h => exact h
  | 1, h => exact h
  | 2, ⟨e, h1, h2, h3⟩ => exact ⟨e, h1, hl h2 plan_ne2 (fun z => absurd z ints_ne), h3⟩
  | 3, h => exact h
  | 4, h => exact h
  | 5, h => exact h
  | 6, h => exact h
  | 7, h => exact h
  | 8, ⟨F, k, h1, h2⟩ => exact ⟨F, k, h1, own_step h2 ints_ne plan_ne2 hr⟩
  | 9, ⟨e, F, k, h1, h2, h3, h4⟩ => exact ⟨e, F, k, h1, hl h2 plan_ne1 (fun _ => h3), h3, own_step h4 ints_ne plan_ne2 hr⟩
  | 10, ⟨F, k, F1, k1, h1, h2, h3⟩ =>
    refine ⟨F, k, F1, k1, h1, ?_, own_step h3 ints_ne plan_ne2 hr⟩
    rcases rPn_ways hr with ⟨rfl, hG, hg⟩ | ⟨_, hR, x, rfl⟩ | ⟨_, _, hb⟩
    · exact absurd rfl hki
    · refine own_grown h2 (grown_set x) fun g hv e => ?_
      injection e with e
      subst e
      exact own_ne h2 hR plan_ne1 hv
    · exact own_below h2 hb
  | 11, h => exact h
  | 12, ⟨F, k, F1, k1, h1, h2, h3⟩ =>
    rcases rPn_ways hr with ⟨rfl, hG, hg⟩ | ⟨rfl, hR, x, rfl⟩ | ⟨_, _, hb⟩
    · exact absurd ⟨rfl, rfl⟩ hx
    · exact absurd rfl hki
    · exact ⟨F, k, F1, k1, heap_below hb h1, own_below h2 hb, own_below h3 hb⟩
  | k + 13, h => exact trivial
end
end Go.Proofs.YtlfekmbalgkmeaaGreatDoor
