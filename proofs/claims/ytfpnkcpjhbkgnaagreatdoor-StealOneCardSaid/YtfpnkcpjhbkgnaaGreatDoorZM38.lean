import Derived.Test.YtfpnkcpjhbkgnaaGreatDoorZM10
import Derived.Test.YtfpnkcpjhbkgnaaGreatDoorZM8
import Derived.Test.YtfpnkcpjhbkgnaaGreatDoorZStealAwake
import Derived.Test.YtfpnkcpjhbkgnaaGreatDoorZM35
import Derived.Test.YtfpnkcpjhbkgnaaGreatDoorZM2
import Derived.Test.YtfpnkcpjhbkgnaaGreatDoorZM1
import Derived.Deep.SlicePairs
import Derived.Lib.SmallJoins
set_option linter.unusedSimpArgs false
set_option linter.unusedVariables false
set_option maxRecDepth 100000
set_option maxHeartbeats 8000000
namespace Go.Proofs.YtfpnkcpjhbkgnaaGreatDoor
open Go.RowKit
section
variable {E: List (Int × Int)} {need: List Int} {cores: Nat} {t: List (List Int)}
theorem ranT_const {x : Int} {a : Nat} : ∀ b, a <= b -> (∀ j, a <= j -> j < b -> x ∉ rowT t j) -> ranT t x b = ranT t x a
  | 0, h, _ => by rw [show a = 0 by omega]
  | b + 1, h, hno => by
    rcases Nat.lt_or_ge b a with h1 | h1
    · rw [show a = b + 1 by omega]
    · rw [ranT_step, List.count_eq_zero.mpr (hno b h1 (by omega)), Nat.add_zero]
      exact ranT_const b h1 fun j h2 h3 => hno j h2 (by omega)
theorem Track.end_ {ran lt lc: Nat -> Int} (h: Track cores t t.length ran lt lc) (G: Good E need cores t) (hp: ∀ z ∈ need,1 <= z) {n: Nat} (hx: n < need.length): endV need t (n: Int) = if doneB need ran (n: Int) = true then lt n + 1 else -1:=by
 have h0: (0: Int) <= (n: Int):=by omega
 have hx': (n: Int) < need.length:=by omega
 have hov:=h.over (by rw [List.take_length]; exact G) hp h0 hx'
 have hpos:=needT_pos hp h0 hx'
 rw [hov]
 by_cases hd: needT need (n: Int) <= ranT t (n: Int) t.length
 ·rw [if_pos (decide_eq_true hd)]
  obtain ⟨k,c,e1,e2,hk,hc,hnum,hlast⟩:=h.last n (by omega)
  have hc1: ranT t (n: Int) t.length = ranT t (n: Int) (k + 1):=ranT_const _ (by omega) fun j h1 h2 => hlast j (by omega) h2
  have hmem: (n: Int) ∈ rowT t k:=by rw [<- hnum]; exact num_mem (by rw [G.len hk]; exact hc)
  have hcnt:=List.count_pos_iff.mpr hmem
  have hst:=ranT_step t (n: Int) k
  have hle:=G.ran_le hp h0 hx' (k + 1)
  rw [e1]
  rw [endV_some (k:=k + 1) (by omega) (by omega) (fun j hj => by
   have:=ranT_mono t (n: Int) (show j <= k by omega)
   omega)]
  omega
 ·rw [if_neg (by simpa using hd)]
  exact endV_none (by omega)
end
section
variable {A: Option Addr} {n c: Nat} {F: Option Addr} {m d: Nat} {W: List Int} {E: List (Int × Int)} {N: Option Addr} {nn nc: Nat} {need: List Int} {T: Option Addr} {tn tc: Nat} {t: List (List Int)}
end
section
variable {A: Option Addr} {n c: Nat} {F: Option Addr} {m d: Nat} {W: List Int} {E: List (Int × Int)} {N: Option Addr} {nn nc: Nat} {need: List Int} {T: Option Addr} {tn tc: Nat} {t: List (List Int)}
end
end Go.Proofs.YtfpnkcpjhbkgnaaGreatDoor
namespace Go.Proofs.YtfpnkcpjhbkgnaaGreatDoor
open Go Go.RowKit
def litV: Int -> List Int -> Bool
 | _,[] => true
 | left,z :: r => if z < 0 then true else if left < z then false else litV (left - z) r
theorem lit_sum : ∀ {need : List Int} {left : Int}, 0 <= left -> (∀ z ∈ need, 0 <= z) -> litV left need = true -> need.sum <= left
  | [], left, h, _, _ => by simpa using h
  | z :: r, left, h, hn, hl => by
    have hz := hn z List.mem_cons_self
    unfold litV at hl
    rw [if_neg (by omega)] at hl
    split at hl
    · cases hl
    · have := lit_sum (by omega) (fun y hy => hn y (List.mem_cons_of_mem _ hy)) hl
      rw [List.sum_cons]; omega
theorem little_any {N: Option Addr} {nn nc: Nat} {need: List Int} (w: World) (hn: need.length = nn) (hl: nn <= 400) (hI: Ints w w.heap.size N need) :
  Calls Tryz.prog 10 #[.slice N nn nc] w fun e w' => e = .returned (.bool (litV 300 need)) /\ w' = w:=by
 have HI:=Lib.hid hI
 have HN:=Lib.hid hn
 obtain ⟨r,hr⟩: ∃ r,r = litV 300 need:=⟨_,rfl⟩
 rw [<- hr]
 have HR:=Lib.hid hr
 clear hI hn hr
 go_enter Tryz.func10,Tryz.ntmps10
 go_wp2
 go_loop [3,4] (fun v i => ∃ (j: Nat) (left: Int),j <= nn /\ i = .int .i64 j /\ v = .int .i64 left /\ 0 <= left /\ left <= 300 /\ Hid (r = litV left (need.drop j))) (fun _ i => nn - (intOf i).toNat)
 case atStart => exact ⟨0,300,Nat.zero_le _,rfl,rfl,by decide,by decide,Lib.hid (by rw [HR.out]; rfl)⟩
 case round =>
  obtain ⟨j,left,hj,rfl,rfl,hl0,hl3,HO⟩:=hrel
  by_cases hlt: j < nn
  ·obtain ⟨bk,off,z,rfl,hbk,hz,d1⟩:=HI.out.at_ (k:=j) (by rw [HN.out]; exact hlt)
   have HZ: Hid (need.drop j = z :: need.drop (j + 1)):=Lib.hid (by
    rw [List.drop_eq_getElem_cons (by rw [HN.out]; exact hlt)]
    congr 1
    rw [List.getElem?_eq_getElem (by rw [HN.out]; exact hlt)] at hz
    exact Option.some.inj hz)
   have HS: Hid (r = if z < 0 then true else if left < z then false else litV (left - z) (need.drop (j + 1))):=Lib.hid (by rw [HO.out,HZ.out]; rfl)
   clear hz hbk HO HZ
   by_cases h0: z < 0
   ·obtain rfl: r = true:=by rw [HS.out,if_pos h0]
    have h0a: decide (z < 0) = true:=decide_eq_true h0
    go_wp2
    go_ret
    exact ⟨rfl,rfl⟩
   have h0a: decide (z < 0) = false:=decide_eq_false h0
   by_cases h1: left < z
   ·obtain rfl: r = false:=by rw [HS.out,if_neg h0,if_pos h1]
    have h1a: decide (left < z) = true:=decide_eq_true h1
    go_wp2
    go_ret
    exact ⟨rfl,rfl⟩
   have h1a: decide (left < z) = false:=decide_eq_false h1
   have HS2: Hid (r = litV (left - z) (need.drop (j + 1))):=Lib.hid (by rw [HS.out,if_neg h0,if_neg h1])
   have hz0: 0 <= z:=by omega
   have hzl: z <= left:=by omega
   clear h0 h1 HS
   go_wp2
   go_round
   case rel => exact ⟨j + 1,left - z,by omega,by go_num,by go_num,by omega,by omega,HS2⟩
   case measure => simp [intOf]; omega
  ·obtain rfl: nn = j:=by omega
   obtain rfl: r = true:=by rw [HO.out,List.drop_of_length_le (by rw [HN.out]; exact Nat.le_refl _)]; rfl
   go_wp2
   go_ret
   exact ⟨rfl,rfl⟩
theorem OwnI.sliceO {w: World} {base: Nat} {v: Value} {zs: List Int} (h: OwnI w base v zs): ∃ A c,v = .slice A zs.length c /\ Ints w w.heap.size A zs /\ (A = none -> zs.length = 0 /\ c = 0):=by
 obtain ⟨A,c,rfl,hI⟩:=h.slice
 refine ⟨A,c,rfl,hI,fun e => ?_⟩
 subst e
 rcases h.2 with ⟨e,h0⟩ | ⟨g,cap,cur,e,_⟩
 ·injection e with _ e2 e3
  exact ⟨e2,e3⟩
 ·injection e with e1 _ _
  cases e1
theorem new_sum {W: List Int} {E: List (Int × Int)} {need: List Int} {cores: Int} (hl: litV 300 need = true) (h: newE W E need cores = 0): need.sum <= 300:=by
 obtain ⟨_,_,h2,_⟩:=newE_zero.mp h
 exact lit_sum (by decide) (fun z hz => by have:=(h2 z hz).1; omega) hl
structure BxT (w0: World) (A: Option Addr) (n c: Nat) (F: Option Addr) (m d: Nat) (T: Option Addr) (tn tc: Nat) (r: List (List Int)) (x: World): Prop where
 b: BxB w0 w0.heap.size A n c F m d x
 t: Trc x x.heap.size T r
 hr: r.length = tn /\ tn <= 300 /\ (∀ x ∈ r,x.length <= 400) /\ (T = none -> tn = 0 /\ tc = 0)
section
variable {A: Option Addr} {n c: Nat} {F: Option Addr} {m d: Nat} {T: Option Addr} {tn tc: Nat} {r: List (List Int)} {w0 x y: World}
theorem BxT.next (h: BxT w0 A n c F m d T tn tc r x) (hb: Below x.heap.size x y): BxT w0 A n c F m d T tn tc r y:=⟨h.b.next hb,(h.t.below hb).more hb.size,h.hr⟩
theorem BxT.bel (h: BxT w0 A n c F m d T tn tc r x): Below w0.heap.size w0 x:=h.b.bel
theorem BxT.cells (h: BxT w0 A n c F m d T tn tc r x): x.cell? ⟨w0.heap.size,0,none⟩ = some (.slice A n c) /\ x.cell? ⟨w0.heap.size,1,none⟩ = some (.slice F m d):=h.b.cells
end
structure InNL (w: World) (N: Option Addr) (nn nc: Nat) (need: List Int): Prop where
 hn: need.length = nn
 ln: nn <= 9223372036854775807
 ints: Ints w w.heap.size N need
 hN: N = none -> nn = 0 /\ nc = 0
theorem ints13_any (w: World) (A: Option Addr) (c n: Nat) (zs: List Int) (hn: zs.length = n) (hl: n <= 1000) (hI: Ints w w.heap.size A zs) (hA: A = none -> n = 0 /\ c = 0) :
  Calls Tryz.prog 13 #[.slice A n c] w fun e w' => ∃ A' c',e = .returned (.slice A' n c') /\ OwnI w' w.heap.size (.slice A' n c') zs /\ n <= c' /\ (A' = none -> n = 0 /\ c' = 0) /\ Below w.heap.size w w':=by
 subst hn
 obtain ⟨v',w1,hr,hO,hB⟩:=new_ints8 w 22 A c zs hl hI hA
 obtain ⟨A',c',rfl,hI',hN⟩:=hO.sliceO
 have HO:=Lib.hid hO
 have HB:=Lib.hid hB
 have HN:=Lib.hid hN
 have HC:=Lib.hid hO.capLe
 obtain ⟨n,hn⟩: ∃ n,n = zs.length:=⟨_,rfl⟩
 rw [<- hn] at hr hl HO HN HC ⊢
 clear hI hA hO hB hn hI' hN
 go_enter Tryz.func13,Tryz.ntmps13
 go_wp2_with (at_builtin; refine wpList_append_plain rfl _ _ 22 _ _ rfl rfl rfl hr ?_)
 go_ret
 exact ⟨A',c',rfl,HO.out,HC.out,HN.out,HB.out⟩
theorem traceG_ok {W: List Int} {E: List (Int × Int)} {need picks: List Int} {m: Nat} (h: newE W E need m = 0): RunOk W.length E need m (traceG W.length m E need picks):=by
 obtain ⟨hm,h1,h2,h3,h4⟩:=newE_zero.mp h
 exact gang_run hm.fits hm.acyc h2 (by omega) (by omega) h1 hm.nodes picks
theorem traceG_small {W: List Int} {E: List (Int × Int)} {need picks: List Int} {m: Nat} (h: newE W E need m = 0) (hs: need.sum <= 300): (traceG W.length m E need picks).length <= 300 /\ ∀ x ∈ traceG W.length m E need picks,x.length <= 400:=by
 have k:=traceG_ok (picks:=picks) h
 obtain ⟨_,_,_,h3,h4⟩:=newE_zero.mp h
 refine ⟨by have:=k.len; omega,fun x hx => ?_⟩
 rw [k.good.rows x hx]
 omega
end Go.Proofs.YtfpnkcpjhbkgnaaGreatDoor
namespace Go.Proofs.YtfpnkcpjhbkgnaaGreatDoor
open Go.ChangeShapes Go.WideShapes Go.ChangeAt Go.RowKit Go.Joins Go.Deep
structure InN (w: World) (N: Option Addr) (nn nc: Nat) (need: List Int): Prop where
 hn: need.length = nn
 ln: nn <= 9223372036854775807
 ints: Ints w w.heap.size N need
 hN: N = none -> nn = 0 /\ nc = 0
structure InT (w: World) (T: Option Addr) (tn tc: Nat) (t: List (List Int)): Prop where
 ht: t.length = tn
 lt: tn <= 9223372036854775807
 lr: ∀ r ∈ t,r.length <= 9223372036854775807
 rows: Trc w w.heap.size T t
 hT: T = none -> tn = 0 /\ tc = 0
 cT: tn <= tc
theorem InN.with {w: World} {N: Option Addr} {nn nc: Nat} {need: List Int} {T: Option Addr} {tn tc: Nat} {t: List (List Int)} (h: InN w N nn nc need) (g: InT w T tn tc t): InS w N nn nc T tn tc need t :=
 ⟨h.hn,g.ht,h.ln,g.lt,g.lr,h.ints,g.rows,h.hN,g.hT,g.cT⟩
theorem edges_of {w: World} {a: Addr} {len m: Nat} {V0 V1: Nat -> Value} (hl: len <= m)
  (h: ∀ i,i < m -> w.cell? (a.add (i * 2)) = some (V0 i) /\ w.cell? (a.add (i * 2 + 1)) = some (V1 i) /\ (∃ n,V0 i = .int .i64 n /\ (Lit.int .i64 n).wf = true) /\ (∃ n,V1 i = .int .i64 n /\ (Lit.int .i64 n).wf = true)) :
  ∃ es: List (Int × Int),es.length = len /\ Pairs w w.heap.size (some a) es /\ ∀ e ∈ es,(-9223372036854775808 <= e.1 /\ e.1 <= 9223372036854775807) /\ (-9223372036854775808 <= e.2 /\ e.2 <= 9223372036854775807):=by
 have e1: IntKind.i64.min = -9223372036854775808:=by decide
 have e2: IntKind.i64.max = 9223372036854775807:=by decide
 let f: Nat -> Int × Int:=fun i => (match V0 i with | .int _ n => n | _ => 0,match V1 i with | .int _ n => n | _ => 0)
 have hf: ∀ i,i < m -> V0 i = .int .i64 (f i).1 /\ V1 i = .int .i64 (f i).2 /\ (Lit.int .i64 (f i).1).wf = true /\ (Lit.int .i64 (f i).2).wf = true:=by
  intro i hi
  obtain ⟨_,_,⟨n0,h0,k0⟩,⟨n1,h1,k1⟩⟩:=h i hi
  simp only [f,h0,h1]
  exact ⟨trivial,trivial,k0,k1⟩
 refine ⟨(List.range len).map f,by simp,fun hp => ?_,?_⟩
 ·have hp: 0 < len:=by simpa using hp
  obtain ⟨b,off,spot⟩:=a
  have hspot: spot = none:=by simpa [Addr.add] using World.cell?_spot (h 0 (by omega)).1
  subst hspot
  have hc: ∀ i,i < m -> w.cell? ⟨b,off + i * 2,none⟩ = some (.int .i64 (f i).1) /\ w.cell? ⟨b,off + i * 2 + 1,none⟩ = some (.int .i64 (f i).2):=by
   intro i hi
   obtain ⟨c0,c1,_,_⟩:=h i hi
   obtain ⟨v0,v1,_,_⟩:=hf i hi
   rw [addr_add,v0] at c0
   rw [addr_add,v1] at c1
   exact ⟨c0,by rw [show off + i * 2 + 1 = off + (i * 2 + 1) by omega]; exact c1⟩
  refine ⟨b,off,rfl,cell_below (hc 0 (by omega)).1,fun k e he => ?_⟩
  obtain ⟨i,hi,rfl⟩:=List.mem_map.mp (List.mem_of_getElem? he)
  have hk: k < len:=by
   have:=(List.getElem?_eq_some_iff.1 he).1
   simpa using this
  rw [List.getElem?_map,List.getElem?_range hk] at he
  have he: f k = f i:=by simpa using he
  rw [<- he]
  exact hc k (by omega)
 ·intro e he
  obtain ⟨i,hi,rfl⟩:=List.mem_map.mp he
  have hi: i < len:=by simpa using hi
  obtain ⟨_,_,k0,k1⟩:=hf i (by omega)
  simp [Lit.wf,e1,e2] at k0 k1
  omega
theorem open_dag {H: Type} {enc: TypeId × Value -> H} {W: World} {base: Nat} {v: Value} {d: DataW H} {p: List MemPlace}
  (hv: Value.okWide Tryz.prog W .any base 25 v) (h: DataW.Trod enc Tryz.prog W 0 (fun _ => true) true 25 v d p) :
  ∃ A n c F m dd Wl El,v = .agg #[.slice A n c,.slice F m dd] /\ InG W A n c F m dd Wl El:=by
 obtain ⟨v0,v1,y0,y1,k,rfl,_,_,h0,h1⟩:=open_agg2 Tryz.underlying25 (by kernel_rfl) (by kernel_rfl) hv h
 obtain ⟨A,n,c,zs,rfl,hrow⟩: ∃ A n c zs,v0 = .slice A n c /\ IsRow .i64 W A n c zs:=by
  rcases open_ints Tryz.underlying22 Tryz.underlying3 (by kernel_rfl) h0 with ⟨hcs,_⟩ | ⟨x,l,c,zs,hcs,_,hl,hm,hz,_,hcell,hwz⟩
  ·simp at hcs
   exact ⟨none,0,0,[],hcs,.inl ⟨rfl,rfl,rfl,rfl⟩⟩
  ·simp at hcs
   exact ⟨_,_,_,zs,hcs,.inr ⟨_,rfl,hl,hm,by simpa using hz,hcell,hwz⟩⟩
 obtain ⟨F,m,dd,es,rfl,hm,hp,hmx,hw,hF⟩: ∃ F m dd,∃ es: List (Int × Int),v1 = .slice F m dd /\ es.length = m /\ Pairs W W.heap.size F es /\ m <= 9223372036854775807 /\
   (∀ e ∈ es,(-9223372036854775808 <= e.1 /\ e.1 <= 9223372036854775807) /\ (-9223372036854775808 <= e.2 /\ e.2 <= 9223372036854775807)) /\ (F = none -> m = 0 /\ dd = 0):=by
  rcases open_slice_pairs Tryz.underlying23 Tryz.underlying181 (by kernel_rfl) rfl rfl (by kernel_rfl) (by kernel_rfl) h1 with ⟨hcs,_⟩ | ⟨a,len,cap,m,nn,V0,V1,D0,D1,P0,P1,hcs,_,hl,hm,hmm,_,hx⟩
  ·simp at hcs
   exact ⟨none,0,0,[],hcs,rfl,fun h => absurd h (by simp),by omega,fun e he => by simp at he,fun _ => ⟨rfl,rfl⟩⟩
  ·simp at hcs
   have hlm: len <= m:=by rw [hmm]; simpa using hl
   obtain ⟨es,k1,k2,k3⟩:=edges_of (w:=W) (a:=a) (len:=len) (m:=m) (V0:=V0) (V1:=V1) hlm (fun i hi => by
    obtain ⟨c0,c1,t0,t1⟩:=hx i hi
    obtain ⟨n0,e0,_,w0⟩:=DataW.trod_int Tryz.underlying3 t0
    obtain ⟨n1,e1,_,w1⟩:=DataW.trod_int Tryz.underlying3 t1
    simp at e0 e1
    exact ⟨c0,c1,⟨n0,e0,w0⟩,⟨n1,e1,w1⟩⟩)
   refine ⟨some a,len,cap,es,hcs,k1,k2,by unfold maxLen at hm; omega,k3,fun e => by cases e⟩
 obtain ⟨r1,r2,r3,r4,r5⟩:=row_ints hrow
 refine ⟨A,n,c,F,m,dd,zs.take n,es,rfl,⟨r2,hm,r4,hmx,r1,hp,fun e => ?_,hF⟩⟩
 have:=r3 e
 omega
section
variable {H: Type} {enc: TypeId × Value -> H} {W: World}
theorem open_intsS {fuel: Nat} {cs: List Value} {x: DataW H × List MemPlace} (h1: DataW.trod enc Tryz.prog W 0 (fun _ => true) true fuel 22 cs = some x) :
  ∃ A n c,∃ zs: List Int,cs = [.slice A n c] /\ zs.length = n /\ Ints W W.heap.size A zs /\ n <= 9223372036854775807 /\ n <= c /\ (A = none -> n = 0 /\ c = 0):=by
 obtain ⟨A,n,c,zs,rfl,hrow⟩: ∃ A n c zs,cs = [.slice A n c] /\ IsRow .i64 W A n c zs:=by
  rcases open_ints Tryz.underlying22 Tryz.underlying3 (by kernel_rfl) h1 with ⟨hcs,_⟩ | ⟨x,l,c,zs,hcs,_,hl,hm,hz,_,hcell,hwz⟩
  ·exact ⟨none,0,0,[],hcs,.inl ⟨rfl,rfl,rfl,rfl⟩⟩
  ·exact ⟨_,_,_,zs,hcs,.inr ⟨_,rfl,hl,hm,by simpa using hz,hcell,hwz⟩⟩
 obtain ⟨r1,r2,r3,r4,r5⟩:=row_ints hrow
 refine ⟨A,n,c,zs.take n,rfl,r2,r1,r4,r5,fun e => ?_⟩
 have:=r3 e
 omega
theorem open_need {base: Nat} {v: Value} {d: DataW H} {p: List MemPlace}
  (hv: Value.okWide Tryz.prog W .any base 22 v) (h: DataW.Trod enc Tryz.prog W 0 (fun _ => true) true 22 v d p) :
  ∃ A n c zs,v = .slice A n c /\ InN W A n c zs:=by
 obtain ⟨a0,len0,cap0,rfl⟩:=okWide_slice Tryz.underlying22 hv
 obtain ⟨fuel,hf⟩:=h
 obtain ⟨A,n,c,zs,e0,l0,m0,b0,s0,w0⟩:=open_intsS hf
 simp [Value.cells] at e0
 obtain ⟨rfl,rfl,rfl⟩:=e0
 exact ⟨_,_,_,zs,rfl,⟨l0,b0,m0,w0⟩⟩
end
end Go.Proofs.YtfpnkcpjhbkgnaaGreatDoor
