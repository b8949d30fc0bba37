import Derived.Test.YtlfekmbalgkmeaaGreatDoorYM27
import Derived.Test.YtlfekmbalgkmeaaGreatDoorYM1
import Derived.Deep.SlicePairs
import Derived.Lib.SmallJoins
import Derived.Test.YtlfekmbalgkmeaaGreatDoorYM3
import Derived.Test.YtlfekmbalgkmeaaGreatDoorYM37
import Derived.Test.YtlfekmbalgkmeaaGreatDoorYAdmPlansWalk
set_option linter.unusedSimpArgs false
set_option linter.unnecessarySimpa false
set_option linter.unusedVariables false
set_option maxRecDepth 100000
namespace Go.Proofs.YtlfekmbalgkmeaaGreatDoor
open Go.ChangeShapes Go.WideShapes Go.ChangeAt Go.RowKit Go.Joins Go.Deep
section
variable {H: Type} {enc: TypeId × Value -> H} {W: World}
theorem spotless {a: Addr} {v: Value} (h: W.cell? a = some v): ∃ b off,a = ⟨b,off,none⟩:=by
 obtain ⟨b,off,spot⟩:=a
 have hspot: spot = none:=World.cell?_spot h
 exact ⟨b,off,by rw [hspot]⟩
theorem open_ints' {fuel: Nat} {cs: List Value} {x: DataW H × List MemPlace} (h0: DataW.trod enc Tryz.prog W 0 (fun _ => true) true fuel 40 cs = some x) :
  ∃ A n c,∃ zs: List Int,cs = [.slice A n c] /\ zs.length = n /\ Ints W W.heap.size A zs /\ (A = none -> n = 0 /\ c = 0):=by
 obtain ⟨A,n,c,zs,hcs,hrow⟩: ∃ A n c zs,cs = [.slice A n c] /\ IsRow .i64 W A n c zs:=by
  rcases open_ints Tryz.underlying40 Tryz.underlying3 (by kernel_rfl) h0 with ⟨hcs,_⟩ | ⟨x,l,c,zs,hcs,_,hl,hm,hz,_,hcell,hwz⟩
  ·exact ⟨none,0,0,[],hcs,.inl ⟨rfl,rfl,rfl,rfl⟩⟩
  ·exact ⟨_,_,_,zs,hcs,.inr ⟨_,rfl,hl,hm,by simpa using hz,hcell,hwz⟩⟩
 obtain ⟨r1,r2,r3,r4,r5⟩:=row_ints hrow
 refine ⟨A,n,c,zs.take n,hcs,r2,r1,fun e => ?_⟩
 have:=r3 e
 omega
end
section
variable {H: Type} {enc: TypeId × Value -> H} {W: World}
end
instance: Inhabited Shp:=⟨⟨0,0,0,0,0⟩⟩
structure InShps (w: World) (A: Option Addr) (n c: Nat) (es: List Shp): Prop where
 hn: es.length = n
 shps: Shps w w.heap.size A es
 hA: A = none -> n = 0 /\ c = 0
 hc: n <= c
section
variable {H: Type} {enc: TypeId × Value -> H} {W: World}
theorem spotlessS {a: Addr} {v: Value} (h: W.cell? a = some v): ∃ b off,a = ⟨b,off,none⟩:=by
 obtain ⟨b,off,spot⟩:=a
 have hspot: spot = none:=World.cell?_spot h
 exact ⟨b,off,by rw [hspot]⟩
theorem open_shps {t e : TypeId} {f0 f1 f2 f3 f4 : Field} {fuel : Nat} {cs : List Value} {x : DataW H × List MemPlace} (ht : Tryz.prog.underlying t = some (.slice e)) (he : Tryz.prog.underlying e = some (.struct #[f0, f1, f2, f3, f4]))
    (ce : Tryz.prog.cellsOf e = 5) (o0 : f0.offset = 0) (o1 : f1.offset = 1) (o2 : f2.offset = 2) (o3 : f3.offset = 3) (o4 : f4.offset = 4) (c0 : Tryz.prog.cellsOf f0.type = 1) (c1 : Tryz.prog.cellsOf f1.type = 1) (c2 : Tryz.prog.cellsOf f2.type = 1) (c3 : Tryz.prog.cellsOf f3.type = 1) (c4 : Tryz.prog.cellsOf f4.type = 1)
    (u0 : Tryz.prog.underlying f0.type = some (.int .i64)) (u1 : Tryz.prog.underlying f1.type = some (.int .i64)) (u2 : Tryz.prog.underlying f2.type = some (.int .i64)) (u3 : Tryz.prog.underlying f3.type = some (.int .i64)) (u4 : Tryz.prog.underlying f4.type = some (.int .i64))
    (h : DataW.trod enc Tryz.prog W 0 (fun _ => true) true fuel t cs = some x) :
    ∃ A n c, ∃ es : List Shp, cs = [.slice A n c] /\ InShps W A n c es := by
  rcases open_slice ht h with ⟨h0, _⟩ | ⟨a, len, cap, m, n, D, Pl, rfl, _, hl, _, hmm, _, hx⟩
  · exact ⟨none, 0, 0, [], h0, rfl, fun hp => absurd hp (by simp), fun _ => ⟨rfl, rfl⟩, Nat.le_refl _⟩
  · have hlm : len <= m := by rw [hmm]; simpa using hl
    have each : ∀ i, i < m -> ∃ q : Shp, (W.cell? (a.add (i * 5)) = some (.int .i64 q.t) /\ W.cell? (a.add (i * 5 + 1)) = some (.int .i64 q.l)) /\ W.cell? (a.add (i * 5 + 2)) = some (.int .i64 q.m) /\ W.cell? (a.add (i * 5 + 3)) = some (.int .i64 q.d) /\ W.cell? (a.add (i * 5 + 4)) = some (.int .i64 q.p) := by
      intro i hi
      obtain ⟨cs', h1, h2⟩ := hx i hi
      rw [ce] at h1
      obtain ⟨_, hlen, hcell⟩ := World.cells?_some h1
      obtain ⟨xs, k, _, _, _, hxl, hf⟩ := DataW.trod_struct he h2
      match xs, hxl, cs', hlen with
      | [y0, y1, y2, y3, y4], _, [v0, v1, v2, v3, v4], _ =>
        have g0 := hf 0 f0 rfl
        have g1 := hf 1 f1 rfl
        have g2 := hf 2 f2 rfl
        have g3 := hf 3 f3 rfl
        have g4 := hf 4 f4 rfl
        simp [o0, o1, o2, o3, o4, c0, c1, c2, c3, c4] at g0 g1 g2 g3 g4
        obtain ⟨z0, e0, _, _⟩ := DataW.trod_int u0 g0
        obtain ⟨z1, e1, _, _⟩ := DataW.trod_int u1 g1
        obtain ⟨z2, e2, _, _⟩ := DataW.trod_int u2 g2
        obtain ⟨z3, e3, _, _⟩ := DataW.trod_int u3 g3
        obtain ⟨z4, e4, _, _⟩ := DataW.trod_int u4 g4
        simp at e0 e1 e2 e3 e4
        subst e0 e1 e2 e3 e4
        have q0 := hcell 0 (by omega)
        have q1 := hcell 1 (by omega)
        have q2 := hcell 2 (by omega)
        have q3 := hcell 3 (by omega)
        have q4 := hcell 4 (by omega)
        rw [add_add] at q0 q1 q2 q3 q4
        exact ⟨⟨z0, z1, z2, z3, z4⟩, ⟨by simpa using q0, by simpa using q1⟩, by simpa using q2, by simpa using q3, by simpa using q4⟩
    obtain ⟨q, hq⟩ := choose_lt each
    refine ⟨some a, len, cap, (List.range len).map q, rfl, by simp, fun hp => ?_, (fun e => by cases e), hl⟩
    have hp : 0 < len := by simpa using hp
    obtain ⟨b, off, rfl⟩ := spotlessS (by simpa [Addr.add] using (hq 0 (by omega)).1.1)
    refine ⟨b, off, rfl, cell_below (hq 0 (by omega)).1.1, fun k x hx => ?_⟩
    have hk : k < len := by
      have := (List.getElem?_eq_some_iff.1 hx).1
      simpa using this
    rw [List.getElem?_map, List.getElem?_range hk] at hx
    obtain rfl : q k = x := by simpa using hx
    obtain ⟨⟨q0, q1⟩, q2, q3, q4⟩ := hq k (by omega)
    rw [addr_add] at q0 q1 q2 q3 q4
    exact ⟨⟨q0, by rw [show off + k * 5 + 1 = off + (k * 5 + 1) by omega]; exact q1⟩, by rw [show off + k * 5 + 2 = off + (k * 5 + 2) by omega]; exact q2, by rw [show off + k * 5 + 3 = off + (k * 5 + 3) by omega]; exact q3, by rw [show off + k * 5 + 4 = off + (k * 5 + 4) by omega]; exact q4⟩
end
section
variable {H: Type} {enc: TypeId × Value -> H} {W: World}
end
instance: Inhabited (Sh × Task):=⟨⟨none,0,0,none,0,0,none,0,0,none,0,0⟩,⟨0,0,[],[],[],[]⟩⟩
section
variable {H: Type} {enc: TypeId × Value -> H} {W: World}
end
section
variable {H: Type} {enc: TypeId × Value -> H} {W: World}
theorem open_lists {fuel: Nat} {cs: List Value} {x: DataW H × List MemPlace} (h1: DataW.trod enc Tryz.prog W 0 (fun _ => true) true fuel 26 cs = some x) :
  ∃ A n c,∃ C: List (List Int),cs = [.slice A n c] /\ C.length = n /\ Lol W W.heap.size A C /\ (A = none -> n = 0 /\ c = 0):=by
 have hC: Tryz.prog.cellsOf 40 = 1:=by kernel_rfl
 rcases open_slice Tryz.underlying26 h1 with ⟨h0,_⟩ | ⟨a,len,cap,m,n,D,Pl,rfl,_,hl,_,hmm,_,hx⟩
 ·exact ⟨none,0,0,[],h0,rfl,fun hp => absurd hp (by simp),fun _ => ⟨rfl,rfl⟩⟩
 ·have hlm: len <= m:=by rw [hmm]; simpa using hl
  have each: ∀ i,i < m -> ∃ q: List Int,∃ A1 c1,W.cell? (a.add i) = some (.slice A1 q.length c1) /\ Ints W W.heap.size A1 q /\ (A1 = none -> q.length = 0 /\ c1 = 0):=by
   intro i hi
   obtain ⟨cs',k1,k2⟩:=hx i hi
   rw [hC] at k1
   obtain ⟨_,hlen,hcell⟩:=World.cells?_some k1
   obtain ⟨A1,n1,c1,zs,e1,hl1,hi1,hn1⟩:=open_ints' k2
   subst e1 hl1
   have q0:=hcell 0 (by omega)
   rw [add_add] at q0
   exact ⟨zs,A1,c1,by simpa using q0,hi1,hn1⟩
  obtain ⟨q,hq⟩:=choose_lt each
  refine ⟨some a,len,cap,(List.range len).map q,rfl,by simp,fun hp => ?_,(fun e => by cases e)⟩
  have hp: 0 < len:=by simpa using hp
  obtain ⟨_,_,hh,_⟩:=hq 0 (by omega)
  obtain ⟨b,off,rfl⟩:=spotless (by simpa [Addr.add] using hh)
  refine ⟨b,off,rfl,cell_below hh,fun k x hx => ?_⟩
  have hk: k < len:=by
   have:=(List.getElem?_eq_some_iff.1 hx).1
   simpa using this
  rw [List.getElem?_map,List.getElem?_range hk] at hx
  obtain rfl: q k = x:=by simpa using hx
  obtain ⟨A1,c1,q0,rest⟩:=hq k (by omega)
  rw [addr_add] at q0
  exact ⟨A1,c1,q0,rest⟩
theorem open_plan {base : Nat} {v : Value} {d : DataW H} {p : List MemPlace}
    (hv : Value.okWide Tryz.prog W .any base 28 v) (h : DataW.Trod enc Tryz.prog W 0 (fun _ => true) true 28 v d p) :
    ∃ A n c G m dd S C, v = .agg #[.slice A n c, .slice G m dd] /\ IsPl W A n c G m dd S C := by
  obtain ⟨cs, rfl, hsz⟩ := okWide_struct Tryz.underlying28 hv
  have hC : Tryz.prog.cellsOf 28 = 2 := by kernel_rfl
  obtain ⟨fuel, hf⟩ := h
  obtain ⟨xs, k, _, _, _, hxl, hg⟩ := DataW.trod_struct Tryz.underlying28 hf
  rw [hC] at hsz
  obtain ⟨l⟩ := cs
  match xs, hxl, l, hsz with
  | [y0, y1], _, [v0, v1], _ =>
    have g0 := hg 0 _ rfl
    have g1 := hg 1 _ rfl
    have k0 : Tryz.prog.cellsOf 25 = 1 := by kernel_rfl
    have k1 : Tryz.prog.cellsOf 26 = 1 := by kernel_rfl
    simp [Value.cells, k0, k1] at g0 g1
    obtain ⟨A, n, c, es, e0, hi⟩ := open_shps Tryz.underlying25 Tryz.underlying44 (by kernel_rfl) rfl rfl rfl rfl rfl (by kernel_rfl) (by kernel_rfl) (by kernel_rfl) (by kernel_rfl) (by kernel_rfl) Tryz.underlying3 Tryz.underlying3 Tryz.underlying3 Tryz.underlying3 Tryz.underlying3 g0
    obtain ⟨G, m, dd, C, e1, hl, hL, hz⟩ := open_lists g1
    simp at e0 e1
    subst e0 e1
    exact ⟨A, n, c, G, m, dd, es, C, rfl, hi.hn, hl, hi.shps, hL, hi.hA, hz⟩
end
end Go.Proofs.YtlfekmbalgkmeaaGreatDoor
namespace Go.Proofs.YtlfekmbalgkmeaaGreatDoor
open Go Go.RowKit
theorem walk_AdmitPlans {A: Option Addr} {n c: Nat} {G: Option Addr} {m d: Nat} {S: List Shp} {C: List (List Int)} {A2: Option Addr} {n2 c2: Nat} {G2: Option Addr} {m2 d2: Nat} {S2: List Shp} {C2: List (List Int)} (w: World) (h: IsPl w A n c G m d S C) (h2: IsPl w A2 n2 c2 G2 m2 d2 S2 C2) (q: Int) (_: -9223372036854775808 <= q /\ q <= 9223372036854775807) (k: Int) (_: -9223372036854775808 <= k /\ k <= 9223372036854775807) (hT: DTab w) :
  Calls Tryz.prog 4 #[.agg #[.slice A n c,.slice G m d],.agg #[.slice A2 n2 c2,.slice G2 m2 d2],.int .i64 q,.int .i64 k] w fun e w' => e = .returned (.bool true) /\ Below w.heap.size w w':=law_AdmitPlans q k w hT h h2
end Go.Proofs.YtlfekmbalgkmeaaGreatDoor
