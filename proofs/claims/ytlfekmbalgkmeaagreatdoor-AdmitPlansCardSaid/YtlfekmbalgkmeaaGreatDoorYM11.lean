import Derived.Test.YtlfekmbalgkmeaaGreatDoorYM10
import Derived.Test.YtlfekmbalgkmeaaGreatDoorYM5
import Derived.Test.YtlfekmbalgkmeaaGreatDoorYM3
import Derived.Lib.Hide
set_option linter.unusedSimpArgs false
set_option linter.unnecessarySimpa false
set_option linter.unusedVariables false
set_option maxHeartbeats 1000000
namespace Go.Proofs.YtlfekmbalgkmeaaGreatDoor
open Go.RowKit
def isTwo (p: Int): Bool:=(List.range 40).any fun k => p == ((2 ^ k: Nat): Int)
theorem isTwo_iff {p: Int}: isTwo p = true ↔ ∃ k: Nat,k < 40 /\ p = ((2 ^ k: Nat): Int):=by
 unfold isTwo
 rw [List.any_eq_true]
 constructor
 ·rintro ⟨k,hk,h⟩
  exact ⟨k,List.mem_range.mp hk,by simpa using h⟩
 ·rintro ⟨k,hk,h⟩
  exact ⟨k,List.mem_range.mpr hk,by simpa using h⟩
def timeE (p q: Int): Bool:=isTwo p && decide (p <= 4096) && decide (1 <= q) && decide (q <= p)
section
variable {P: Option Addr} {np pc: Nat} {E: Option Addr} {ne ec: Nat} {F: Option Addr} {nf fc: Nat} {R: Option Addr} {nr rc: Nat} {p q: Int}
end
def partOk (e: Int × Int × Int): Prop:=0 <= e.1 /\ e.1 <= 5 /\ 0 <= e.2.1 /\ e.2.1 <= 2147483647 /\ 1 <= e.2.2 /\ e.2.2 <= 100
instance (e: Int × Int × Int): Decidable (partOk e):=by unfold partOk; infer_instance
def partsOk (es: List (Int × Int × Int)): Prop:=∀ e ∈ es,partOk e
instance (es: List (Int × Int × Int)): Decidable (partsOk es):=by unfold partsOk; infer_instance
section
variable {P: Option Addr} {np pc: Nat} {E: Option Addr} {ne ec: Nat} {F: Option Addr} {nf fc: Nat} {R: Option Addr} {nr rc: Nat} {p q: Int}
structure BxD (w: World) (p q: Int) (P: Option Addr) (np pc: Nat) (E: Option Addr) (ne ec: Nat) (F: Option Addr) (nf fc: Nat) (R: Option Addr) (nr rc: Nat) (w': World): Prop where
 bel: Below w.heap.size w w'
 c0: w'.cell? ⟨w.heap.size,0,none⟩ = some (.int .i64 p)
 c1: w'.cell? ⟨w.heap.size,1,none⟩ = some (.int .i64 q)
 c2: w'.cell? ⟨w.heap.size,2,none⟩ = some (.slice P np pc)
 c3: w'.cell? ⟨w.heap.size,3,none⟩ = some (.slice E ne ec)
 c4: w'.cell? ⟨w.heap.size,4,none⟩ = some (.slice F nf fc)
 c5: w'.cell? ⟨w.heap.size,5,none⟩ = some (.slice R nr rc)
theorem BxD.next {w w1 w2: World} (h: BxD w p q P np pc E ne ec F nf fc R nr rc w1) (hb: Below w1.heap.size w1 w2): BxD w p q P np pc E ne ec F nf fc R nr rc w2:=by
 have hlt: w.heap.size < w1.heap.size:=World.block_lt_of_cell? _ _ h.c0
 exact ⟨h.bel.trans (hb.mono h.bel.size),(hb.cell hlt).trans h.c0,(hb.cell hlt).trans h.c1,(hb.cell hlt).trans h.c2,(hb.cell hlt).trans h.c3,(hb.cell hlt).trans h.c4,(hb.cell hlt).trans h.c5⟩
theorem BxD.start (w: World) (p q: Int) (P: Option Addr) (np pc: Nat) (E: Option Addr) (ne ec: Nat) (F: Option Addr) (nf fc: Nat) (R: Option Addr) (nr rc: Nat) :
  BxD w p q P np pc E ne ec F nf fc R nr rc (w.alloc (.cells #[.int .i64 p,.int .i64 q,.slice P np pc,.slice E ne ec,.slice F nf fc,.slice R nr rc] 57)):=by
 refine ⟨below_alloc _,?_,?_,?_,?_,?_,?_⟩ <;> (rw [World.cell?_alloc_at _ _ _ _ rfl]; rfl)
theorem BxD.cells {w w': World} (h: BxD w p q P np pc E ne ec F nf fc R nr rc w'): w'.cell? ⟨w.heap.size,0,none⟩ = some (.int .i64 p) /\ w'.cell? ⟨w.heap.size,1,none⟩ = some (.int .i64 q) /\ w'.cell? ⟨w.heap.size,2,none⟩ = some (.slice P np pc) /\
  w'.cell? ⟨w.heap.size,3,none⟩ = some (.slice E ne ec) /\ w'.cell? ⟨w.heap.size,4,none⟩ = some (.slice F nf fc) /\ w'.cell? ⟨w.heap.size,5,none⟩ = some (.slice R nr rc):=⟨h.c0,h.c1,h.c2,h.c3,h.c4,h.c5⟩
end
structure RowOk (np: Nat) (l: List Int): Prop where
 some_: 0 < l.length
 parts: ∀ x ∈ l,0 <= x /\ x < np
 rises: ∀ i x y,l[i]? = some x -> l[i + 1]? = some y -> x < y
section
variable {P: Option Addr} {np pc: Nat} {E: Option Addr} {ne ec: Nat} {F: Option Addr} {nf fc: Nat} {R: Option Addr} {nr rc: Nat} {p q: Int}
theorem near_cell {w: World} {a: Addr} {v: Value} (h: w.cell? a = some v) (x: Near w.heap.size w): x.W.cell? a = some v:=(x.h.cell (World.block_lt_of_cell? _ _ h)).trans h
end
theorem take_snoc' {α: Type} {l: List α} {j: Nat} {a: α} (h: l[j]? = some a): l.take (j + 1) = l.take j ++ [a]:=by
 rw [List.take_add_one,h]
 rfl
theorem take_ext {α: Type} {xs ys: List α} (h: xs.length = ys.length) (e: xs.take xs.length = ys.take xs.length): xs = ys:=by
 rw [List.take_length,h,List.take_length] at e
 exact e
theorem take_next {α: Type} {xs ys: List α} {j: Nat} {a: α} (e: xs.take j = ys.take j) (h1: xs[j]? = some a) (h2: ys[j]? = some a): xs.take (j + 1) = ys.take (j + 1):=by
 rw [take_snoc' h1,take_snoc' h2,e]
theorem take_part {α: Type} {xs ys: List α} {j: Nat} {a b: α} (h1: xs[j]? = some a) (h2: ys[j]? = some b) (hne: a ≠ b): xs ≠ ys:=by
 rintro rfl
 rw [h1] at h2
 exact hne (Option.some.inj h2)
theorem drews (w: World) (N n: Nat): (w.drewN N).drewN n = w.drewN (N + n):=by simp
theorem ints_any (B: Nat) (A1 A2: Option Addr) (c1 c2: Nat) (xs ys: List Int) (w: World) (hx: xs.length <= 1000) (hy: ys.length <= 1000) (h1: Ints w B A1 xs) (h2: Ints w B A2 ys) :
  Calls Tryz.prog 21 #[.slice A1 xs.length c1,.slice A2 ys.length c2] w fun e w' => e = .returned (.bool (decide (xs = ys))) /\ ∃ N,w' = w.drewN N:=by
 obtain ⟨n,hn⟩: ∃ n,n = xs.length:=⟨_,rfl⟩
 obtain ⟨m,hm⟩: ∃ m,m = ys.length:=⟨_,rfl⟩
 rw [<- hn,<- hm]
 rw [<- hn] at hx
 rw [<- hm] at hy
 have HN:=Lib.hid hn
 have HM:=Lib.hid hm
 have H1:=Lib.hid h1
 have H2:=Lib.hid h2
 clear hn hm h1 h2
 by_cases hnm: n = m
 ·subst hnm
  go_enter Tryz.func21,Tryz.ntmps21
  go_wp2
  go_loopw [5] (fun i wr => ∃ j N: Nat,j <= n /\ i = .int .i64 j /\ Hid (xs.take j = ys.take j) /\ wr = w.drewN N) (fun i _ => n - (intOf i).toNat)
  case atStart => exact ⟨0,0,Nat.zero_le _,rfl,Lib.hid rfl,rfl⟩
  case round =>
   obtain ⟨j,N,hj,rfl,HT,rfl⟩:=hrel
   by_cases hlt: j < n
   ·obtain ⟨b1,o1,x,rfl,_,hx1,hc1⟩:=H1.out.at_ (k:=j) (by rw [<- HN.out]; exact hlt)
    obtain ⟨b2,o2,y,rfl,_,hy1,hc2⟩:=H2.out.at_ (k:=j) (by rw [<- HM.out]; exact hlt)
    have HX:=Lib.hid hx1
    have HY:=Lib.hid hy1
    clear hx1 hy1
    by_cases hxy: x = y
    ·subst hxy
     go_wp2
     go_quiet (fail)
     go_wp2
     go_roundw
     case rel => exact ⟨j + 1,_,by omega,by go_num,Lib.hid (take_next HT.out HX.out HY.out),rfl⟩
     case measure => simp [intOf]; omega
    ·have hb: (x != y) = true:=by simpa using hxy
     have HXY:=Lib.hid hxy
     clear hxy
     go_wp2
     go_quiet (fail)
     go_wp2
     go_ret
     exact ⟨by rw [decide_eq_false (take_part HX.out HY.out HXY.out)]; rfl,_,drews w N _⟩
   ·obtain rfl: j = n:=by omega
    go_wp2
    go_ret
    exact ⟨by rw [decide_eq_true (take_ext (by rw [<- HN.out,<- HM.out]) (by rw [<- HN.out]; exact HT.out))]; rfl,_,rfl⟩
 ·have hb: ((n: Int) != (m: Int)) = true:=by simp; omega
  go_enter Tryz.func21,Tryz.ntmps21
  go_wp2
  go_ret
  exact ⟨by rw [decide_eq_false (fun e: xs = ys => hnm (by rw [HN.out,HM.out,e]))]; rfl,0,rfl⟩
end Go.Proofs.YtlfekmbalgkmeaaGreatDoor
namespace Go.Proofs.YtlfekmbalgkmeaaGreatDoor
def ed (E: List (Int × Int)) (a b: Nat): Prop:=((a: Int),(b: Int)) ∈ E
instance (E: List (Int × Int)) (a b: Nat): Decidable (ed E a b):=by unfold ed; infer_instance
inductive Way (E: List (Int × Int)): Nat -> Nat -> Prop
 | one {a b: Nat}: ed E a b -> Way E a b
 | more {a b c: Nat}: Way E a b -> ed E b c -> Way E a c
def Acyc (E: List (Int × Int)): Prop:=∀ a,¬ Way E a a
def Fits (n: Nat) (E: List (Int × Int)): Prop:=∀ e ∈ E,0 <= e.1 /\ e.1 < n /\ 0 <= e.2 /\ e.2 < n
def Up (E: List (Int × Int)): List Nat -> Prop
 | [] => False
 | [_] => True
 | b :: a :: r => ed E a b /\ Up E (a :: r)
variable {E: List (Int × Int)}
theorem Way.trans {a b c: Nat} (h: Way E a b) (k: Way E b c): Way E a c:=by
 induction k with
 | one e => exact .more h e
 | more _ e ih => exact .more ih e
theorem Way.first {a b : Nat} (h : Way E a b) : ed E a b \/ ∃ c, ed E a c /\ Way E c b := by
  induction h with
  | one e => exact .inl e
  | more _ e ih =>
    rcases ih with h | ⟨c, h1, h2⟩
    · exact .inr ⟨_, h, .one e⟩
    · exact .inr ⟨c, h1, .more h2 e⟩
theorem Way.last {a b: Nat} (h: Way E a b): ∃ c,ed E c b /\ (c = a \/ Way E a c):=by
 cases h with
 | one e => exact ⟨a,e,.inl rfl⟩
 | more h e => exact ⟨_,e,.inr h⟩
theorem Way.mono {E': List (Int × Int)} {a b: Nat} (h: Way E a b) (hE: ∀ a b,ed E a b -> ed E' a b): Way E' a b:=by
 induction h with
 | one e => exact .one (hE _ _ e)
 | more _ e ih => exact .more ih (hE _ _ e)
theorem ed_lt {n a b: Nat} (hF: Fits n E) (h: ed E a b): a < n /\ b < n:=by
 have:=hF _ h
 simp at this
 omega
theorem Way.lt {n a b: Nat} (hF: Fits n E) (h: Way E a b): a < n /\ b < n:=by
 induction h with
 | one e => exact ed_lt hF e
 | more _ e ih => exact ⟨ih.1,(ed_lt hF e).2⟩
theorem Up.tail {b: Nat} {r: List Nat} (h: Up E (b :: r)) (hr: r ≠ []): Up E r:=by
 cases r with
 | nil => exact absurd rfl hr
 | cons a r => exact h.2
theorem Up.way : ∀ {r : List Nat} {b : Nat}, Up E (b :: r) -> ∀ a ∈ r, Way E a b
  | [], _, _, a, ha => by simp at ha
  | c :: r, b, h, a, ha => by
    rcases List.mem_cons.mp ha with rfl | ha
    · exact .one h.1
    · exact .more (Up.way h.2 a ha) h.1
theorem Up.nodup (hA : Acyc E) : ∀ {p : List Nat}, Up E p -> p.Nodup
  | [], h => h.elim
  | [b], _ => by simp
  | b :: a :: r, h => by
    rw [List.nodup_cons]
    refine ⟨fun hm => hA b (Up.way h b hm), Up.nodup hA h.2⟩
theorem Up.lt {n : Nat} (hF : Fits n E) : ∀ {p : List Nat}, Up E p -> (∀ b, p = [b] -> b < n) -> ∀ x ∈ p, x < n
  | [], h, _, _, _ => h.elim
  | [b], _, h1, x, hx => by
    obtain rfl : x = b := by simpa using hx
    exact h1 x rfl
  | b :: a :: r, h, _, x, hx => by
    have hab := ed_lt hF h.1
    rcases List.mem_cons.mp hx with rfl | hx
    · exact hab.2
    · exact Up.lt hF h.2 (fun c hc => by injection hc with hc _; omega) x hx
theorem Way.up {a b : Nat} (h : Way E a b) : ∃ r, Up E (b :: r) /\ r.getLast? = some a := by
  induction h with
  | one e => exact ⟨[_], ⟨e, trivial⟩, rfl⟩
  | more _ e ih =>
    obtain ⟨r, hr, hl⟩ := ih
    refine ⟨_ :: r, ⟨e, hr⟩, ?_⟩
    cases r with
    | nil => simp at hl
    | cons x r => rw [List.getLast?_cons_cons]; exact hl
theorem sum_below (w : Nat -> Nat) : ∀ (n : Nat) (l : List Nat), l.Nodup -> (∀ x ∈ l, x < n) -> (l.map w).sum <= ((List.range n).map w).sum
  | 0, l, _, h => by
    cases l with
    | nil => exact Nat.le_refl _
    | cons x r => exact absurd (h x (by simp)) (by omega)
  | n + 1, l, hn, h => by
    rw [List.range_succ, List.map_append, List.sum_append]
    by_cases hm : n ∈ l
    · have hp := List.perm_cons_erase hm
      have hs := (hp.map w).sum_nat
      rw [hs]
      have ih := sum_below w n (l.erase n) (hn.erase n) (fun x hx => by
        have h1 := (hn.mem_erase_iff).mp hx
        have := h x h1.2
        omega)
      simp only [List.map_cons, List.sum_cons, List.map_nil, List.sum_nil]
      omega
    · have ih := sum_below w n l hn (fun x hx => by
        have := h x hx
        have : x ≠ n := fun e => hm (e ▸ hx)
        omega)
      simp only [List.map_cons, List.sum_cons, List.map_nil, List.sum_nil]
      omega
theorem length_below (n: Nat) (l: List Nat) (hn: l.Nodup) (h: ∀ x ∈ l,x < n): l.length <= n:=by
 have h1:=sum_below (fun _ => 1) n l hn h
 rw [List.map_const',List.map_const',List.sum_replicate_nat,List.sum_replicate_nat,List.length_range] at h1
 omega
def Dn (E: List (Int × Int)): List Nat -> Prop
 | [] => False
 | [_] => True
 | a :: b :: r => ed E a b /\ Dn E (b :: r)
theorem Dn.way : ∀ {r : List Nat} {a : Nat}, Dn E (a :: r) -> ∀ b ∈ r, Way E a b
  | [], _, _, b, hb => by simp at hb
  | c :: r, a, h, b, hb => by
    rcases List.mem_cons.mp hb with rfl | hb
    · exact .one h.1
    · exact (Way.one h.1).trans (Dn.way h.2 b hb)
theorem Dn.nodup (hA : Acyc E) : ∀ {p : List Nat}, Dn E p -> p.Nodup
  | [], h => h.elim
  | [b], _ => by simp
  | a :: b :: r, h => by
    rw [List.nodup_cons]
    exact ⟨fun hm => hA a (Dn.way h a hm), Dn.nodup hA h.2⟩
theorem Dn.lt {n : Nat} (hF : Fits n E) : ∀ {p : List Nat}, Dn E p -> 2 <= p.length -> ∀ x ∈ p, x < n
  | [], h, _, _, _ => h.elim
  | [b], _, h1, x, hx => by simp at h1
  | [a, b], h, _, x, hx => by
    have hab := ed_lt hF h.1
    simp at hx
    rcases hx with rfl | rfl
    · exact hab.1
    · exact hab.2
  | a :: b :: c :: r, h, _, x, hx => by
    have hab := ed_lt hF h.1
    rcases List.mem_cons.mp hx with rfl | hx
    · exact hab.1
    · exact Dn.lt hF h.2 (by simp) x hx
theorem source {n : Nat} (hF : Fits n E) (hA : Acyc E) (S : Nat -> Prop) (u : Nat) (hu : S u) : ∃ v, S v /\ ∀ a, ed E a v -> ¬ S a := by
  apply Classical.byContradiction
  intro hno
  have hall : ∀ v, S v -> ∃ a, ed E a v /\ S a := fun v hv => Classical.byContradiction fun h => hno ⟨v, hv, fun a ha hs => h ⟨a, ha, hs⟩⟩
  have key : ∀ k : Nat, ∃ (a : Nat) (r : List Nat), r.length = k /\ Dn E (a :: r) /\ S a := by
    intro k
    induction k with
    | zero => exact ⟨u, [], rfl, trivial, hu⟩
    | succ k ih =>
      obtain ⟨a, r, hl, hp, ha⟩ := ih
      obtain ⟨b, hb, hs⟩ := hall a ha
      exact ⟨b, a :: r, by simp [hl], ⟨hb, hp⟩, hs⟩
  obtain ⟨a, r, hl, hp, _⟩ := key (n + 1)
  have h1 := length_below n (a :: r) (hp.nodup hA) (hp.lt hF (by simp [hl]))
  simp [hl] at h1
  omega
theorem ed_snoc {a b x y: Nat}: ed (E ++ [((a: Int),(b: Int))]) x y ↔ ed E x y \/ (x = a /\ y = b):=by
 unfold ed
 rw [List.mem_append,List.mem_singleton,Prod.mk.injEq,Int.ofNat_inj,Int.ofNat_inj]
theorem Acyc.mono {E': List (Int × Int)} (hA: Acyc E) (h: ∀ a b,ed E' a b -> ed E a b): Acyc E':=fun a hw => hA a (hw.mono h)
theorem Up.mono {E': List (Int × Int)} (h: ∀ a b,ed E a b -> ed E' a b): ∀ {p: List Nat},Up E p -> Up E' p
 | [],k => k.elim
 | [_],_ => trivial
 | b :: a :: r,k => ⟨h _ _ k.1,Up.mono h k.2⟩
def wsum (W: List Int) (p: List Nat): Int:=(p.map fun x => W.getD x 0).sum
def In (n: Nat) (p: List Nat): Prop:=∀ x ∈ p,x < n
theorem wsum_le {W : List Int} (hw : ∀ z ∈ W, 0 <= z) {p : List Nat} (hn : p.Nodup) (hi : In W.length p) : wsum W p <= W.sum := by
  have h := sum_below (fun x => (W.getD x 0).toNat) W.length p hn hi
  have e1 : ∀ q : List Nat, (((q.map fun x => (W.getD x 0).toNat).sum : Nat) : Int) = wsum W q := by
    intro q
    induction q with
    | nil => rfl
    | cons x q ih =>
      have h0 : 0 <= W.getD x 0 := by
        rw [List.getD_eq_getElem?_getD]
        cases hx : W[x]? with
        | none => exact Int.le_refl _
        | some z => exact hw z (List.mem_of_getElem? hx)
      unfold wsum at ih ⊢
      simp only [List.map_cons, List.sum_cons]
      rw [<- ih]
      omega
  have e2 : wsum W (List.range W.length) = W.sum := by
    unfold wsum
    congr 1
    apply List.ext_getElem?
    intro i
    rw [List.getElem?_map]
    rcases Nat.lt_or_ge i W.length with h | h
    · rw [List.getElem?_range h]
      simp [List.getElem?_eq_getElem h]
    · rw [List.getElem?_eq_none (by simpa using h), List.getElem?_eq_none h]
      rfl
  have h2 : (((p.map fun x => (W.getD x 0).toNat).sum : Nat) : Int) <= (((List.range W.length).map fun x => (W.getD x 0).toNat).sum : Nat) := by exact_mod_cast h
  rw [e1, e1, e2] at h2
  exact h2
end Go.Proofs.YtlfekmbalgkmeaaGreatDoor
namespace Go.Proofs.YtlfekmbalgkmeaaGreatDoor
open Go.RowKit
def EdgesOk (n: Nat) (E: List (Int × Int)): Prop:=Fits n E /\ (∀ e ∈ E,e.1 ≠ e.2) /\ E.Nodup
theorem edgesOk_snoc {n: Nat} {E: List (Int × Int)} {j: Nat} {e: Int × Int} (h: E[j]? = some e): EdgesOk n (E.take (j + 1)) ↔ EdgesOk n (E.take j) /\ (0 <= e.1 /\ e.1 < n) /\ (0 <= e.2 /\ e.2 < n) /\ e.1 ≠ e.2 /\ e ∉ E.take j:=by
 rw [take_snoc' h]
 unfold EdgesOk Fits
 rw [List.nodup_append]
 constructor
 ·rintro ⟨k1,k2,k3⟩
  have q:=k1 e (by simp)
  refine ⟨⟨fun x hx => k1 x (by simp [hx]),fun x hx => k2 x (by simp [hx]),k3.1⟩,⟨q.1,q.2.1⟩,q.2.2,k2 e (by simp),fun hm => k3.2.2 e hm e (by simp) rfl⟩
 ·rintro ⟨⟨k1,k2,k3⟩,q1,q2,q3,q4⟩
  refine ⟨fun x hx => ?_,fun x hx => ?_,k3,by simp,fun a ha b hb => ?_⟩
  ·rcases List.mem_append.mp hx with hx | hx
   ·exact k1 x hx
   ·obtain rfl: x = e:=by simpa using hx
    exact ⟨q1.1,q1.2,q2.1,q2.2⟩
  ·rcases List.mem_append.mp hx with hx | hx
   ·exact k2 x hx
   ·obtain rfl: x = e:=by simpa using hx
    exact q3
  ·obtain rfl: b = e:=by simpa using hb
   exact fun h => q4 (h ▸ ha)
theorem edgesOk_take {n: Nat} {E: List (Int × Int)} (h: EdgesOk n E) (j: Nat): EdgesOk n (E.take j) :=
 ⟨fun e he => h.1 e (List.mem_of_mem_take he),fun e he => h.2.1 e (List.mem_of_mem_take he),h.2.2.sublist (List.take_sublist j E)⟩
theorem mem_take_snoc {α: Type} [DecidableEq α] {l: List α} {j: Nat} {e x: α} (h: l[j]? = some e): x ∈ l.take (j + 1) ↔ x ∈ l.take j \/ x = e:=by
 rw [List.take_add_one,h]
 simp
theorem has_any (A: Option Addr) (c: Nat) (zs: List Int) (x: Int) (w: World) (len: Nat) (hn: zs.length = len) (hl: len <= 1000) (hI: Ints w w.heap.size A zs) :
  Calls Tryz.prog 26 #[.slice A len c,.int .i64 x] w fun e w' => e = .returned (.bool (decide (x ∈ zs))) /\ w = w':=by
 have HI:=Lib.hid hI
 have HM:=Lib.hid hn
 obtain ⟨r,hr⟩: ∃ r,r = decide (x ∈ zs):=⟨_,rfl⟩
 rw [<- hr]
 have HR:=Lib.hid hr
 clear hI hn hr
 go_enter Tryz.func26,Tryz.ntmps26
 go_wp2
 go_loop [5] (fun i => ∃ j: Nat,j <= len /\ i = .int .i64 j /\ Hid (x ∉ zs.take j)) (fun i => len - (intOf i).toNat)
 case atStart => exact ⟨0,Nat.zero_le _,rfl,Lib.hid (by simp)⟩
 case round =>
  obtain ⟨j,hj,rfl,HN⟩:=hrel
  by_cases hlt: j < len
  ·obtain ⟨bk,o,z,rfl,hbg,hzj,hc1⟩:=HI.out.at_ (k:=j) (by rw [HM.out]; exact hlt)
   have HS:=Lib.hid (mem_take_snoc (x:=x) hzj)
   have HZJ:=Lib.hid hzj
   clear hzj
   by_cases h1: z = x
   ·have hin: x ∈ zs:=by subst h1; exact List.mem_of_getElem? HZJ.out
    have HIN:=Lib.hid (decide_eq_true hin)
    clear hin
    go_wp2
    go_ret
    exact ⟨by rw [HR.out,HIN.out]; rfl,rfl⟩
   ·have h3: (z == x) = false:=by simpa using h1
    go_wp2
    go_round
    case rel => exact ⟨j + 1,by omega,by go_num,Lib.hid (by rw [HS.out]; rintro (h | h); exact HN.out h; exact h1 h.symm)⟩
    case measure => simp [intOf]; omega
  ·obtain rfl: j = len:=by omega
   have hno: x ∉ zs:=by
    have h:=HN.out
    rwa [List.take_of_length_le (by rw [HM.out]; omega)] at h
   have HNO:=Lib.hid (decide_eq_false hno)
   clear hno
   go_wp2
   go_ret
   exact ⟨by rw [HR.out,HNO.out]; rfl,rfl⟩
end Go.Proofs.YtlfekmbalgkmeaaGreatDoor
