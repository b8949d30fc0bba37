import Derived.Test.YtfpnkcpjhbkgnaaGreatDoorChecked
import Derived.WalkKit
import Derived.Handy
import Derived.KernelRfl
import Derived.Below
import Derived.Laws.Bits64b
import Derived.Lib.TrailingZeros
import Derived.Lib.Hide
import Derived.Laws.AppendOwnNone
import Derived.Deep.AppendLies
import Derived.Maps.AppendAt
import Derived.Test.YtfpnkcpjhbkgnaaGreatDoorRows
import Derived.ProofKit
import Derived.OpenShut
import Derived.ShutString
import Derived.ChangeOld
import Derived.ChangeMaps5
import Derived.Test.YtfpnkcpjhbkgnaaGreatDoorCards
import Derived.Test.YtfpnkcpjhbkgnaaGreatDoorTie
import Derived.Deep.DeepHandedRow
import Derived.Lib.LaidTab
import Derived.Stop.LaidErr
import Derived.WalkSmall
import Derived.BigQuiet
import Derived.Deep.QuietTactic
import Derived.ArgAppend
import Derived.OwnWalk
import Derived.Orders
set_option linter.unusedSimpArgs false
set_option linter.unusedVariables false
set_option maxHeartbeats 1000000
namespace Go.Proofs.YtfpnkcpjhbkgnaaGreatDoor
open Go.RowKit
def Tab64 (w: World): Prop:=∀ j,j < Lib.deBruijn64tab.length -> w.cell? ⟨0,j,none⟩ = some (.int .u8 (Lib.deBruijn64tab.getD j 0))
theorem Tab64.below {w w': World} {B: Nat} (h: Tab64 w) (hb: Below B w w') (hB: 0 < B): Tab64 w':=fun j hj => (hb.cell (p:=⟨0,j,none⟩) hB).trans (h j hj)
theorem Tab64.lt {w: World} (h: Tab64 w): 0 < w.heap.size:=World.block_lt_of_cell? _ _ (h 0 (by decide))
theorem Tab64.via {w w': World} (h: Tab64 w) (hb: Below w.heap.size w w'): Tab64 w':=h.below hb h.lt
theorem tz64_core (x k idx: Nat) (w: World) (hx0: ((x: Int) == 0) = false)
  (key: IntKind.u64.wrap (bits BinOp.and IntKind.u64 (x: Int) (IntKind.u64.wrap (-(x: Int))) * 285870213051353865) / 288230376151711744 = (idx: Int))
  (hi: idx < 64) (hk: k < 64) (hcell: w.cell? ⟨0,idx,none⟩ = some (.int .u8 k)) :
  Calls Tryz.prog 139 #[.int .u64 x] w fun e w' => e = .returned (.int .i64 k) /\ w = w':=by
 go_enter Tryz.func139,Tryz.ntmps139
 go_wp2_with (simp only [key])
 go_ret
 exact ⟨rfl,rfl⟩
theorem tz64_at (x a: Nat) (hx: x < 18446744073709551616) (hx0: x ≠ 0) (hlow: x &&& (18446744073709551616 - x) = a) :
  IntKind.u64.wrap (bits BinOp.and IntKind.u64 (x: Int) (IntKind.u64.wrap (-(x: Int))) * 285870213051353865) / 288230376151711744 = ((a * 285870213051353865 % 18446744073709551616 / 288230376151711744: Nat): Int):=by
 have e1: IntKind.u64.wrap (-(x: Int)) = ((18446744073709551616 - x: Nat): Int):=by rw [IntKind.wrap_u64]; omega
 rw [e1,bits_and_u64_nat x _ hx (by omega),hlow,IntKind.wrap_u64]
 omega
theorem tz64_any (x: Nat) (w: World) (hx: x < 18446744073709551616) (hx0: x ≠ 0) (hT: Tab64 w) :
  Calls Tryz.prog 139 #[.int .u64 x] w fun e w' => e = .returned (.int .i64 (Lib.ctz 64 x)) /\ w = w':=by
 obtain ⟨hlow,hk⟩:=Lib.lowest_bit 64 x hx0 hx
 obtain ⟨hi,htab⟩:=Lib.deBruijn64_at _ hk
 have hcell:=hT _ hi
 rw [htab] at hcell
 exact tz64_core x _ _ w (by simp; omega) (tz64_at x _ hx hx0 hlow) hi hk hcell
def Ints (w: World) (B: Nat) (A: Option Addr) (zs: List Int): Prop :=
 0 < zs.length -> ∃ b off,A = some ⟨b,off,none⟩ /\ b < B /\ ∀ k,k < zs.length -> w.cell? ⟨b,off + k,none⟩ = some (.int .i64 (zs.getD k 0))
theorem Ints.at_ {w: World} {B: Nat} {A: Option Addr} {zs: List Int} {k: Nat} (h: Ints w B A zs) (hk: k < zs.length) :
  ∃ b off z,A = some ⟨b,off,none⟩ /\ b < B /\ zs[k]? = some z /\ w.cell? ⟨b,off + k,none⟩ = some (.int .i64 z):=by
 obtain ⟨b,off,e,hb,hc⟩:=h (by omega)
 exact ⟨b,off,zs[k],e,hb,List.getElem?_eq_getElem hk,by rw [hc k hk,List.getD_eq_getElem?_getD,List.getElem?_eq_getElem hk]; rfl⟩
theorem Ints.keep {w w': World} {B: Nat} {A: Option Addr} {zs: List Int} (h: Ints w B A zs) (hk: ∀ p: Addr,p.block < B -> w'.cell? p = w.cell? p): Ints w' B A zs:=fun hn => by
 obtain ⟨b,off,e,hb,hc⟩:=h hn
 exact ⟨b,off,e,hb,fun k hk' => (hk _ hb).trans (hc k hk')⟩
theorem Ints.more {w: World} {B B': Nat} {A: Option Addr} {zs: List Int} (h: Ints w B A zs) (hB: B <= B'): Ints w B' A zs:=fun hn => by
 obtain ⟨b,off,e,hb,hc⟩:=h hn
 exact ⟨b,off,e,by omega,hc⟩
theorem Ints.below {w w': World} {B: Nat} {A: Option Addr} {zs: List Int} (h: Ints w B A zs) (hb: Below B w w'): Ints w' B A zs:=h.keep fun _ hp => hb.cell hp
theorem Ints.alloc {w: World} {B: Nat} {A: Option Addr} {zs: List Int} (h: Ints w B A zs) (hB: B <= w.heap.size) (o: Obj): Ints (w.alloc o) B A zs :=
 h.keep fun p hp => World.cell?_alloc_lt w o p (by omega)
theorem Ints.nil_ (w: World) (B: Nat) (A: Option Addr): Ints w B A []:=fun h => absurd h (by simp)
theorem Ints.take {w: World} {B: Nat} {A: Option Addr} {zs: List Int} (h: Ints w B A zs) (i: Nat): Ints w B A (zs.take i):=fun hn => by
 have hl: (zs.take i).length <= zs.length:=by simp; omega
 obtain ⟨b,off,e,hb,hc⟩:=h (by omega)
 refine ⟨b,off,e,hb,fun k hk => ?_⟩
 have hk2: k < i:=by simp at hk; omega
 rw [hc k (by omega),List.getD_eq_getElem?_getD,List.getD_eq_getElem?_getD,List.getElem?_take,if_pos hk2]
theorem addr_add (b off j: Nat): (⟨b,off,none⟩: Addr).add j = ⟨b,off + j,none⟩:=by unfold Addr.add; by_cases h0: j = 0 <;> simp [h0]
theorem Ints.cells {w: World} {B: Nat} {ad: Addr} {zs: List Int} (h: Ints w B (some ad) zs): ∀ (j: Nat) (u: Value),(zs.map (Value.int .i64))[j]? = some u -> w.cell? (ad.add j) = some u:=by
 intro j u hu
 have hj: j < zs.length:=by
  rcases Nat.lt_or_ge j zs.length with hlt | hge
  ·exact hlt
  ·rw [List.getElem?_eq_none (by simpa using hge)] at hu; cases hu
 obtain ⟨b,off,e,hb,hc⟩:=h (by omega)
 injection e with e
 subst e
 rw [addr_add,hc j hj]
 rw [List.getElem?_map,List.getElem?_eq_getElem hj] at hu
 rw [List.getD_eq_getElem?_getD,List.getElem?_eq_getElem hj]
 simpa using hu
theorem oneCell_ints (zs: List Int): ∀ u ∈ zs.map (Value.int .i64),u.oneCell' = true:=by
 intro u hu
 obtain ⟨n,_,rfl⟩:=List.mem_map.mp hu
 rfl
theorem Ints.of_own {w: World} {base: Nat} {e: TypeId} {v: Value} {zs: List Int} (h: w.ownsRow base e 1 v zs.length (zs.map (Value.int .i64))) :
  ∃ A c,v = .slice A zs.length c /\ Ints w w.heap.size A zs:=by
 by_cases hn: 0 < zs.length
 ·obtain ⟨g,cap,hv,_,hlt⟩:=h.form hn
  refine ⟨some ⟨g,0,none⟩,cap,hv,fun _ => ⟨g,0,rfl,hlt,fun k hk => ?_⟩⟩
  subst hv
  have h1: (zs.map (Value.int .i64))[k]? = some (.int .i64 (zs.getD k 0)):=by
   rw [List.getElem?_map,List.getElem?_eq_getElem hk,List.getD_eq_getElem?_getD,List.getElem?_eq_getElem hk]; rfl
  have:=h.cells (g:=g) rfl k _ h1
  rwa [addr_add] at this
 ·obtain rfl: zs = []:=List.eq_nil_of_length_eq_zero (by omega)
  rcases h.2 with ⟨rfl,_⟩ | ⟨g,cap,cur,rfl,_⟩
  ·exact ⟨none,0,rfl,Ints.nil_ _ _ _⟩
  ·exact ⟨some ⟨g,0,none⟩,cap,rfl,Ints.nil_ _ _ _⟩
theorem below_alloc {w: World} (o: Obj): Below w.heap.size w (w.alloc o):=(Below.refl _ _).alloc (Nat.le_refl _) o
end Go.Proofs.YtfpnkcpjhbkgnaaGreatDoor
namespace Go.Proofs.YtfpnkcpjhbkgnaaGreatDoor
open Go.ChangeShapes Go.WideShapes Go.ChangeAt Go.RowKit
theorem own: ownKnob Tryz.prog.godebug = none:=by kernel_rfl
theorem laidOut: laidOutB Tryz.prog = true:=by kernel_rfl
theorem cell_below {w: World} {b off: Nat} {v: Value} (h: w.cell? ⟨b,off,none⟩ = some v): b < w.heap.size:=by
 rcases Nat.lt_or_ge b w.heap.size with hlt | hge
 ·exact hlt
 ·unfold World.cell? at h
  simp [Array.getElem?_eq_none hge] at h
def IsRow (k: IntKind) (w: World) (a: Option Addr) (len cap: Nat) (zs: List Int): Prop :=
 (a = none /\ len = 0 /\ cap = 0 /\ zs = []) \/
 ∃ x,a = some x /\ len <= cap /\ cap <= maxLen /\ zs.length = cap /\ (∀ i,i < zs.length -> w.cell? (x.add i) = some (.int k (zs.getD i 0))) /\ ∀ n ∈ zs,(Lit.int k n).wf = true
theorem row_ints {w: World} {a: Option Addr} {len cap: Nat} {zs: List Int} (h: IsRow .i64 w a len cap zs) :
  Ints w w.heap.size a (zs.take len) /\ (zs.take len).length = len /\ (a = none -> cap = 0) /\ len <= 9223372036854775807 /\ len <= cap:=by
 rcases h with ⟨rfl,rfl,rfl,rfl⟩ | ⟨x,rfl,hl,hm,hz,hc,_⟩
 ·exact ⟨Ints.nil_ _ _ _,rfl,fun _ => rfl,by omega,by omega⟩
 ·have hlen: (zs.take len).length = len:=by rw [List.length_take]; omega
  refine ⟨fun hn => ?_,hlen,(fun e => by cases e),by unfold maxLen at hm; omega,hl⟩
  obtain ⟨b,off,rfl,hc'⟩:=ints_at hc (by omega)
  refine ⟨b,off,rfl,cell_below (hc' 0 (by omega)),fun k hk => ?_⟩
  have hk2: k < len:=by omega
  rw [hc' k (by omega),List.getD_eq_getElem?_getD,List.getD_eq_getElem?_getD,List.getElem?_take,if_pos hk2]
end Go.Proofs.YtfpnkcpjhbkgnaaGreatDoor
namespace Go.Proofs.YtfpnkcpjhbkgnaaGreatDoor
open Go Go.RowKit
def DTab (w: World): Prop:=Tab64 w
theorem DTab.via {w w': World} (h: DTab w) (hb: Below w.heap.size w w'): DTab w':=Tab64.via h hb
end Go.Proofs.YtfpnkcpjhbkgnaaGreatDoor
namespace Go.Proofs.YtfpnkcpjhbkgnaaGreatDoor
open Go.ChangeShapes Go.WideShapes Go.ChangeAt Go.RowKit
theorem gTab64 : Tryz.prog.globalNamed "math/bits.deBruijn64tab" = some 0 := by kernel_rfl
theorem gTab64Type: (Tryz.prog.globals[0]?).map (·.type) = some 183:=by kernel_rfl
theorem cells64: Tryz.prog.cellsOf 183 = 64:=by kernel_rfl
theorem cells8: Tryz.prog.cellsOf 5 = 1:=by kernel_rfl
theorem laidMet_tail {P: Program} {W: World} {a: String × DataW Unit} {rest: List (String × DataW Unit)} (h: laidMet P (a :: rest) W): laidMet P rest W:=by
 obtain ⟨ps,hv,hnd,hc⟩:=h
 obtain ⟨_,_,_,_,p,q,_,_,_,_,hr,rfl⟩:=hv
 exact ⟨q,hr,(List.nodup_append.mp hnd).2.1,fun b off hm => hc b off (List.mem_append_right _ hm)⟩
theorem tabs_of {W : World} (h : laidMetH Tryz.prog [("math/bits.deBruijn32tab", Rows.laid_math_bits_deBruijn32tab), ("math/bits.deBruijn64tab", Rows.laid_math_bits_deBruijn64tab)] W) : DTab W := by
 have h1 : laidMet Tryz.prog [("math/bits.deBruijn32tab", Rows.laid_math_bits_deBruijn32tab), ("math/bits.deBruijn64tab", Rows.laid_math_bits_deBruijn64tab)] W := h
 have h2:=laidMet_tail h1
 have h3 : Lib.TabIs Tryz.prog W "math/bits.deBruijn64tab" .u8 (Lib.deBruijn64tab.map Int.ofNat) :=
  Lib.tabIs_of_head (rest:=[]) gTab64 gTab64Type Tryz.underlying183 Tryz.underlying5 cells8 cells64 h2
 intro j hj
 rw [h3.cell gTab64 j (by simpa using hj)]
 congr 2
 rw [List.getD_eq_getElem?_getD,List.getElem?_map,List.getElem?_eq_getElem hj,List.getD_eq_getElem?_getD,List.getElem?_eq_getElem hj]
 rfl
theorem wf64 {a: Int} (h: (Lit.int .i64 a).wf = true): -9223372036854775808 <= a /\ a <= 9223372036854775807:=by
 have e1: IntKind.i64.min = -9223372036854775808:=by decide
 have e2: IntKind.i64.max = 9223372036854775807:=by decide
 simp [Lit.wf,e1,e2] at h
 omega
def tab32: List Nat:=[0,1,28,2,29,14,24,3,30,22,20,15,25,17,4,8,31,27,13,23,21,19,16,7,26,12,18,6,11,5,10,9]
def setTab (l: List Nat): Obj -> Obj
 | .cells _ t frozen => .cells (l.map fun n => Value.int .u8 (Int.ofNat n)).toArray t frozen
 | o => o
noncomputable def laidWorld (os: Os): World :=
 { World.holding Tryz.prog os ⟨#[],#[],[]⟩ with heap:=((World.holding Tryz.prog os ⟨#[],#[],[]⟩).heap.modify 1 (setTab tab32)).modify 0 (setTab Lib.deBruijn64tab) }
end Go.Proofs.YtfpnkcpjhbkgnaaGreatDoor
namespace Go.Proofs.YtfpnkcpjhbkgnaaGreatDoor
open Go.RowKit
def OwnI (w: World) (base: Nat) (v: Value) (zs: List Int): Prop:=w.ownsRow base 3 1 v zs.length (zs.map (Value.int .i64))
theorem OwnI.new (w: World) (base: Nat) (hb: base <= w.heap.size): OwnI (w.alloc (.cells #[] 3)) base (.slice (some ⟨w.heap.size,0,none⟩) 0 0) [] :=
 ⟨rfl,.inr ⟨w.heap.size,0,#[],rfl,hb,heap_alloc_new w _,Nat.le_refl _,by simp [maxLen],rfl,rfl⟩⟩
theorem OwnI.below {w w': World} {base: Nat} {v: Value} {zs: List Int} (h: OwnI w base v zs) (hb: Below w.heap.size w w'): OwnI w' base v zs:=by
 refine ⟨h.1,?_⟩
 rcases h.2 with hn | ⟨g,cap,cur,rfl,hg,hgg,rest⟩
 ·exact .inl hn
 ·exact .inr ⟨g,cap,cur,rfl,hg,by rw [hb.block g (Array.getElem?_eq_some_iff.1 hgg).1]; exact hgg,rest⟩
theorem OwnI.alloc {w: World} {base: Nat} {v: Value} {zs: List Int} (h: OwnI w base v zs) (o: Obj): OwnI (w.alloc o) base v zs:=h.below (below_alloc o)
theorem OwnI.slice {w: World} {base: Nat} {v: Value} {zs: List Int} (h: OwnI w base v zs): ∃ A c,v = .slice A zs.length c /\ Ints w w.heap.size A zs:=Ints.of_own h
theorem int_cell_info: (Tryz.prog.info? 3).map (fun i => (i.zero,i.size,i.bytes)) = some (some (.int .i64 0),1,8):=by kernel_rfl
theorem wpList_push {ops : Array Oper} {rest : List Oper} {o : Oper} {a : Act} {Q : Exit -> Act -> World -> Prop} (hgd : o.guard = none) (s x : Operand)
    (ho : o.op = .call { callee := .builtin .append, args := #[s, x], argTypes := #[22, 22] })
    (w1 : World) (base : Nat) (v : Value) (zs : List Int) (n : Int) (len : Nat) (hlen : zs.length = len) (hl : len <= 1000) (hO : OwnI w1 base v zs) (hB : base <= w1.heap.size)
    (hs : a.eval s = v) (hx : a.eval x = .slice (some ⟨w1.heap.size, 0, none⟩) 1 1)
    (h : ∀ A' c' w', OwnI w' base (.slice A' (len + 1) c') (zs ++ [n]) -> Below base w1 w' -> wpList Tryz.prog ops Q rest (a.put o.dst (.slice A' (len + 1) c')) w') : wpList Tryz.prog ops Q (o :: rest) a (w1.alloc (.cells #[.int .i64 n] 3)) := by
  obtain ⟨i0, hi0, hz0, hz1, hz2⟩ : ∃ i, Tryz.prog.info? 3 = some i /\ i.zero = some (.int .i64 0) /\ i.size = 1 /\ i.bytes = 8 := by
    have h := int_cell_info
    cases hi : Tryz.prog.info? 3 with
    | none => rw [hi] at h; cases h
    | some i =>
      rw [hi] at h
      simp at h
      exact ⟨i, rfl, h.1, h.2.1, h.2.2⟩
  subst hlen
  refine wpList_append_own _ hgd s x 22 ho base 3 i0 (.int .i64 0) 1 8 Tryz.underlying22 hi0 hz0 hz1 hz2 rfl (by omega) v zs.length (zs.map (Value.int .i64)) hs (hO.alloc _) ⟨w1.heap.size, 0, none⟩ 1 1 [.int .i64 n] hx rfl ?_ ?_
    (by unfold maxLen; omega) (by omega) (by simp; omega) ?_
  · intro j u hu
    match j with
    | 0 =>
      obtain rfl : Value.int .i64 n = u := by simpa using hu
      rw [addr_add, World.cell?_alloc_at _ _ _ _ rfl]
      rfl
    | j + 1 => simp at hu
  · intro u hu
    obtain rfl : u = .int .i64 n := by simpa using hu
    rfl
  · intro v' w' hown' hg _
    have hO' : OwnI w' base v' (zs ++ [n]) := by
      unfold OwnI
      rw [List.length_append, List.length_singleton, List.map_append]
      exact hown'
    obtain ⟨A', c', rfl, _⟩ := hO'.slice
    rw [show (zs ++ [n]).length = zs.length + 1 by simp] at hO' ⊢
    refine h A' c' w' hO' (((Below.refl base w1).alloc hB _).grown hg (by simp; omega) (fun k hk => ?_))
    exact (hO.lt k hk).1
def Pairs (w: World) (B: Nat) (A: Option Addr) (es: List (Int × Int)): Prop :=
 0 < es.length -> ∃ b off,A = some ⟨b,off,none⟩ /\ b < B /\ ∀ k e,es[k]? = some e -> w.cell? ⟨b,off + k * 2,none⟩ = some (.int .i64 e.1) /\ w.cell? ⟨b,off + k * 2 + 1,none⟩ = some (.int .i64 e.2)
theorem Pairs.at_ {w: World} {B: Nat} {A: Option Addr} {es: List (Int × Int)} {k: Nat} (h: Pairs w B A es) (hk: k < es.length) :
  ∃ b off e,A = some ⟨b,off,none⟩ /\ b < B /\ es[k]? = some e /\ w.cell? ⟨b,off + k * 2,none⟩ = some (.int .i64 e.1) /\ w.cell? ⟨b,off + k * 2 + 1,none⟩ = some (.int .i64 e.2):=by
 obtain ⟨b,off,e,hb,hc⟩:=h (by omega)
 have he: es[k]? = some es[k]:=List.getElem?_eq_getElem hk
 exact ⟨b,off,es[k],e,hb,he,(hc k _ he).1,(hc k _ he).2⟩
theorem Pairs.keep {w w': World} {B: Nat} {A: Option Addr} {es: List (Int × Int)} (h: Pairs w B A es) (hk: ∀ p: Addr,p.block < B -> w'.cell? p = w.cell? p): Pairs w' B A es:=fun hn => by
 obtain ⟨b,off,e,hb,hc⟩:=h hn
 exact ⟨b,off,e,hb,fun k x hx => ⟨(hk _ hb).trans (hc k x hx).1,(hk _ hb).trans (hc k x hx).2⟩⟩
theorem Pairs.more {w: World} {B B': Nat} {A: Option Addr} {es: List (Int × Int)} (h: Pairs w B A es) (hB: B <= B'): Pairs w B' A es:=fun hn => by
 obtain ⟨b,off,e,hb,hc⟩:=h hn
 exact ⟨b,off,e,by omega,hc⟩
theorem Pairs.below {w w': World} {B: Nat} {A: Option Addr} {es: List (Int × Int)} (h: Pairs w B A es) (hb: Below B w w'): Pairs w' B A es:=h.keep fun _ hp => hb.cell hp
theorem Pairs.alloc {w: World} {B: Nat} {A: Option Addr} {es: List (Int × Int)} (h: Pairs w B A es) (hB: B <= w.heap.size) (o: Obj): Pairs (w.alloc o) B A es :=
 h.keep fun p hp => World.cell?_alloc_lt w o p (by omega)
def flatE (es: List (Int × Int)): List Value:=es.flatMap fun e => [.int .i64 e.1,.int .i64 e.2]
theorem flatE_length (es : List (Int × Int)) : (flatE es).length = es.length * 2 := by
  induction es with
  | nil => rfl
  | cons e es ih =>
    rw [show flatE (e :: es) = .int .i64 e.1 :: .int .i64 e.2 :: flatE es from rfl, List.length_cons, List.length_cons, List.length_cons, ih]
    omega
theorem flatE_at : ∀ {es : List (Int × Int)} {k : Nat} {e : Int × Int}, es[k]? = some e -> (flatE es)[k * 2]? = some (.int .i64 e.1) /\ (flatE es)[k * 2 + 1]? = some (.int .i64 e.2)
  | [], k, e, h => by simp at h
  | x :: es, 0, e, h => by
    obtain rfl : x = e := by simpa using h
    exact ⟨rfl, rfl⟩
  | x :: es, k + 1, e, h => by
    have ih := flatE_at (es := es) (k := k) (e := e) (by simpa using h)
    have e1 : flatE (x :: es) = .int .i64 x.1 :: .int .i64 x.2 :: flatE es := rfl
    rw [e1, show (k + 1) * 2 = k * 2 + 1 + 1 by omega]
    simp only [List.getElem?_cons_succ]
    exact ih
theorem flatE_cell {es: List (Int × Int)} {j: Nat} {u: Value} (h: (flatE es)[j]? = some u): ∃ e,es[j / 2]? = some e /\ ((j % 2 = 0 /\ u = .int .i64 e.1) \/ (j % 2 = 1 /\ u = .int .i64 e.2)):=by
 have hj: j < es.length * 2:=by
  rw [<- flatE_length]
  rcases Nat.lt_or_ge j (flatE es).length with h1 | h1
  ·exact h1
  ·rw [List.getElem?_eq_none h1] at h; cases h
 have hk: es[j / 2]? = some es[j / 2]:=List.getElem?_eq_getElem (by omega)
 refine ⟨_,hk,?_⟩
 obtain ⟨h1,h2⟩:=flatE_at hk
 rcases Nat.mod_two_eq_zero_or_one j with h0 | h0
 ·rw [show j / 2 * 2 = j by omega,h] at h1
  exact .inl ⟨h0,Option.some.inj h1⟩
 ·rw [show j / 2 * 2 + 1 = j by omega,h] at h2
  exact .inr ⟨h0,Option.some.inj h2⟩
theorem flatE_one (es: List (Int × Int)): ∀ u ∈ flatE es,u.oneCell' = true:=by
 intro u hu
 unfold flatE at hu
 obtain ⟨e,_,h⟩:=List.mem_flatMap.mp hu
 rcases (by simpa using h: u = .int .i64 e.1 \/ u = .int .i64 e.2) with rfl | rfl <;> rfl
theorem Pairs.news {w: World} {B: Nat} {ad: Addr} {es: List (Int × Int)} (h: Pairs w B (some ad) es): ∀ j u,(flatE es)[j]? = some u -> w.cell? (ad.add j) = some u:=by
 intro j u hu
 obtain ⟨e,he,hu2⟩:=flatE_cell hu
 have hl: 0 < es.length:=by
  cases es with
  | nil => simp at he
  | cons _ _ => simp
 obtain ⟨b,off,hA,_,hc⟩:=h hl
 injection hA with hA
 subst hA
 rw [addr_add]
 obtain ⟨c1,c2⟩:=hc _ _ he
 rcases hu2 with ⟨h0,rfl⟩ | ⟨h0,rfl⟩
 ·rw [show off + j = off + j / 2 * 2 by omega]
  exact c1
 ·rw [show off + j = off + j / 2 * 2 + 1 by omega]
  exact c2
def OwnE (w: World) (base: Nat) (v: Value) (es: List (Int × Int)): Prop:=w.ownsRow base 181 2 v es.length (flatE es)
theorem own_below {w w': World} {base: Nat} {e: TypeId} {s n: Nat} {v: Value} {xs: List Value} (h: w.ownsRow base e s v n xs) (hb: Below w.heap.size w w'): w'.ownsRow base e s v n xs:=by
 refine ⟨h.1,?_⟩
 rcases h.2 with hn | ⟨g,cap,cur,rfl,hg,hgg,rest⟩
 ·exact .inl hn
 ·exact .inr ⟨g,cap,cur,rfl,hg,by rw [hb.block g (Array.getElem?_eq_some_iff.1 hgg).1]; exact hgg,rest⟩
theorem OwnE.below {w w': World} {base: Nat} {v: Value} {es: List (Int × Int)} (h: OwnE w base v es) (hb: Below w.heap.size w w'): OwnE w' base v es:=own_below h hb
theorem own_less {w: World} {base base': Nat} {e: TypeId} {s n: Nat} {v: Value} {xs: List Value} (h: w.ownsRow base e s v n xs) (hb: base' <= base): w.ownsRow base' e s v n xs:=by
 refine ⟨h.1,?_⟩
 rcases h.2 with hn | ⟨g,cap,cur,rfl,hg,rest⟩
 ·exact .inl hn
 ·exact .inr ⟨g,cap,cur,rfl,by omega,rest⟩
theorem OwnE.slice {w: World} {base: Nat} {v: Value} {es: List (Int × Int)} (h: OwnE w base v es): ∃ A c,v = .slice A es.length c /\ Pairs w w.heap.size A es:=by
 rcases h.2 with ⟨rfl,hn⟩ | ⟨g,cap,cur,rfl,hg,hgg,hnc,hcm,hcs,htake⟩
 ·have: es = []:=List.eq_nil_of_length_eq_zero hn
  subst this
  exact ⟨none,0,rfl,fun h0 => absurd h0 (by simp)⟩
 ·refine ⟨some ⟨g,0,none⟩,cap,rfl,fun _ => ⟨g,0,rfl,(Array.getElem?_eq_some_iff.1 hgg).1,fun k e he => ?_⟩⟩
  obtain ⟨h1,h2⟩:=flatE_at he
  have h': w.ownsRow base 181 2 (.slice (some ⟨g,0,none⟩) es.length cap) es.length (flatE es):=h
  have c1:=h'.cells (g:=g) rfl _ _ h1
  have c2:=h'.cells (g:=g) rfl _ _ h2
  rw [addr_add] at c1 c2
  rw [show 0 + (k * 2 + 1) = 0 + k * 2 + 1 by omega] at c2
  exact ⟨c1,c2⟩
theorem edge_cell_info: (Tryz.prog.info? 181).map (fun i => (i.zero,i.size,i.bytes)) = some (some (.agg #[.int .i64 0,.int .i64 0]),2,16):=by kernel_rfl
theorem fresh_append {P : Program} (w : World) (t ty e : TypeId) (i : TypeInfo) (z : Value) (size bytes : Nat) (ht : P.underlying t = some (.slice e)) (hi : P.info? e = some i) (hz : i.zero = some z)
    (hsize : i.size = size) (hby : i.bytes = bytes) (hzs : z.cells.size = size) (hsz : 0 < size) (base g : Nat) (hg : w.heap[g]? = some (.cells #[] e (0, 0))) (hbg : base <= g) (hbw : base <= w.heap.size)
    (A : Option Addr) (len c : Nat) (news : List Value) (hl : news.length = len * size) (hA : A = none -> len = 0 /\ c = 0) (hnews : ∀ ad, A = some ad -> ∀ j u, news[j]? = some u -> w.cell? (ad.add j) = some u) (h1 : ∀ u ∈ news, u.oneCell' = true)
    (h63 : len <= maxLen) (hbytes : len * bytes <= 140737488355328) :
    ∃ v' w', (Builtin.append_ #[t, t] ty #[.slice (some ⟨g, 0, none⟩) 0 0, .slice A len c]).run P w = .ok v' w' /\ w'.ownsRow base e size v' len news /\ Below w.heap.size w w' := by
  have hown : w.ownsRow base e size (.slice (some ⟨g, 0, none⟩) 0 0) 0 [] := ⟨by simp, .inr ⟨g, 0, #[], rfl, hbg, hg, Nat.le_refl _, by simp [maxLen], by simp, by simp⟩⟩
  cases A with
  | none =>
    obtain ⟨rfl, rfl⟩ := hA rfl
    obtain rfl : news = [] := List.eq_nil_of_length_eq_zero (by simpa using hl)
    exact ⟨_, w, run_append_owned_none w base t ty e i size ht hi _ 0 [] hown, hown, Below.refl _ _⟩
  | some ad =>
    rcases Nat.eq_zero_or_pos len with h0 | h0
    · subst h0
      obtain rfl : news = [] := List.eq_nil_of_length_eq_zero (by simpa using hl)
      have hr := run_append_room (P := P) w t ty e i ht hi g 0 0 #[] hg ad 0 c [] (by simp) (fun j u h => by simp at h) (fun u h => by simp at h) (by omega) (by simp)
      refine ⟨_, _, hr, ?_, ?_⟩
      · exact ⟨by simp, .inr ⟨g, 0, _, rfl, hbg, setRow_heap w g _ _ e _ hg, Nat.le_refl _, by simp [maxLen], by simp, by simp⟩⟩
      · refine ⟨rfl, rfl, rfl, by simp, fun k _ => ?_⟩
        by_cases hk : k = g
        · subst hk
          rw [setRow_heap w k _ _ e _ hg, hg]
          simp
        · exact setRow_other w g k _ hk
    · obtain ⟨v', w', hr, ho, hgr⟩ := run_append_arg_grows (P := P) w t ty e i z size bytes ht hi hz hsize hby hzs hsz ⟨g, 0, none⟩ 0 0 [] (by simp) (fun j u h => by simp at h) ad len c news hl (hnews ad rfl) (by omega) (by omega) (by simpa using hbytes)
      rw [Nat.zero_add, List.nil_append] at ho
      exact ⟨v', w', hr, own_less ho hbw, ⟨hgr.os, hgr.tape, hgr.output, hgr.size, fun k hk => hgr.block k hk (by simp)⟩⟩
end Go.Proofs.YtfpnkcpjhbkgnaaGreatDoor
namespace Go.Proofs.YtfpnkcpjhbkgnaaGreatDoor
open Go
section
variable {P: Program} {ops: Array Oper} {Q: Exit -> Act -> World -> Prop}
def unlisted (l: Array Bool): Nat:=l.toList.countP (fun b => !b)
theorem countP_set : ∀ (xs : List Bool) (i : Nat), xs[i]? = some false -> (xs.set i true).countP (fun b => !b) + 1 = xs.countP (fun b => !b)
  | [], i, h => by simp at h
  | x :: xs, 0, h => by
    obtain rfl : x = false := by simpa using h
    simp
  | x :: xs, i + 1, h => by
    have ih := countP_set xs i (by simpa using h)
    simp only [List.set_cons_succ, List.countP_cons]
    omega
theorem unlisted_set {l: Array Bool} {i: Nat} (h: l.getD i true = false): unlisted (l.setIfInBounds i true) + 1 = unlisted l:=by
 have hi: i < l.size:=by
  rcases Nat.lt_or_ge i l.size with h1 | h1
  ·exact h1
  ·simp [Array.getElem?_eq_none h1] at h
 have h0: l[i] = false:=by simpa [hi] using h
 unfold unlisted
 rw [Array.toList_setIfInBounds]
 refine countP_set l.toList i ?_
 rw [Array.getElem?_toList,Array.getElem?_eq_getElem hi,h0]
theorem wpAny_inv (Inv : Array Bool -> Act -> World -> Prop)
    (hstep : ∀ (listed : Array Bool) (a : Act) (w : World) (i : Nat), Inv listed a w -> i ∈ Region.ready .any ops listed -> wpOp P ops Q i (Inv (listed.setIfInBounds i true)) a w)
    (hend : ∀ (listed : Array Bool) (a : Act) (w : World), Inv listed a w -> Region.ready .any ops listed = [] -> Q .normal a w) :
    ∀ (fuel : Nat) (listed : Array Bool) (a : Act) (w : World), unlisted listed <= fuel -> Inv listed a w -> wpAny P .any ops Q fuel listed a w
  | 0, listed, a, w, hf, hI => by
    have hr : Region.ready .any ops listed = [] := by
      rw [List.eq_nil_iff_forall_not_mem]
      intro i hi
      have := unlisted_set (mem_ready.1 hi).1
      omega
    exact ⟨hr, hend _ _ _ hI hr⟩
  | fuel + 1, listed, a, w, hf, hI =>
    ⟨fun hr => hend _ _ _ hI hr, fun i hi => wpOp_mono (fun a' w' hI' => wpAny_inv Inv hstep hend fuel _ a' w' (by have := unlisted_set (mem_ready.1 hi).1; omega) hI') (hstep _ _ _ _ hI hi)⟩
theorem wp_region_inv {id: Nat} {a: Act} {w: World} (Inv: Array Bool -> Act -> World -> Prop) (hm: P.follows .mixedOrders = true)
  (h0: Inv (Array.replicate ops.size false) a { w with drawn:=w.drawn + 1 })
  (hstep: ∀ (listed: Array Bool) (a: Act) (w: World) (i: Nat),Inv listed a w -> i ∈ Region.ready .any ops listed -> wpOp P ops Q i (Inv (listed.setIfInBounds i true)) a w)
  (hend: ∀ (listed: Array Bool) (a: Act) (w: World),Inv listed a w -> Region.ready .any ops listed = [] -> Q .normal a w): (Code.region id ops true).wp P Q a w :=
 wp_region_any hm (wpAny_inv Inv hstep hend _ _ _ _ (by
  unfold unlisted
  refine Nat.le_trans List.countP_le_length ?_
  simp) h0)
theorem all_listed {listed : Array Bool} (hs : listed.size = ops.size) (hb : ∀ (i : Nat) (o : Oper), ops[i]? = some o -> ∀ e ∈ o.after, e.on < i) (hr : Region.ready .any ops listed = []) : ∀ i, i < ops.size -> listed.getD i false = true := by
  intro i
  induction i using Nat.strongRecOn with
  | _ i ih =>
    intro hi
    cases hl : listed.getD i false with
    | true => rfl
    | false =>
      have hi2 : i < listed.size := by omega
      have h1 : listed.getD i true = false := by
        simp [hi2] at hl ⊢
        exact hl
      have h2 : i ∈ Region.ready .any ops listed := mem_ready.2 ⟨h1, ops[i], Array.getElem?_eq_getElem hi, fun e he _ => by
        have h3 := hb i _ (Array.getElem?_eq_getElem hi) e he
        exact ih e.on h3 (by omega)⟩
      rw [hr] at h2
      simp at h2
def backB (ops: Array Oper): Bool:=(List.range ops.size).all fun i => match ops[i]? with
 | some o => o.after.all fun e => decide (e.on < i)
 | none => true
theorem back_of (h: backB ops = true): ∀ (i: Nat) (o: Oper),ops[i]? = some o -> ∀ e ∈ o.after,e.on < i:=by
 intro i o ho e he
 have hi: i < ops.size:=by
  rcases Nat.lt_or_ge i ops.size with h1 | h1
  ·exact h1
  ·rw [Array.getElem?_eq_none h1] at ho; cases ho
 have h1:=List.all_eq_true.1 h i (List.mem_range.2 hi)
 rw [ho] at h1
 exact of_decide_eq_true (Array.all_eq_true'.1 h1 e he)
theorem listed_set {listed: Array Bool} {i k: Nat} (h: (listed.setIfInBounds i true).getD k false = true): k = i \/ listed.getD k false = true:=by
 by_cases hik: i = k
 ·exact .inl hik.symm
 ·right
  simp [Array.getElem?_setIfInBounds_ne hik] at h
  simpa using h
theorem wpOp_at {i: Nat} {o: Oper} {a: Act} {w: World} {K: Act -> World -> Prop} (ho: ops[i]? = some o) (hg: o.guard = none) (h: o.wp P a w K Q): wpOp P ops Q i K a w:=by
 unfold wpOp
 rw [ho]
 simp only [Region.wanted,hg,if_true]
 exact .inl h
theorem wp_append_run {o: Oper} {a: Act} {w w': World} {K: Act -> World -> Prop} {s x: Operand} {t: TypeId} {vs vx v: Value} (hop: o.op = .call { callee:=.builtin .append,args:=#[s,x],argTypes:=#[t,t] })
  (hs: a.eval s = vs) (hx: a.eval x = vx) (hr: (Builtin.append_ #[t,t] o.type #[vs,vx]).run P w = .ok v w') (hK: K (a.put o.dst v) w'): o.wp P a w K Q:=by
 unfold Oper.wp
 simp [execOp,hop,resolve,invoke,builtin,hs,hx,hr,Result.andThen]
 exact hK
end
end Go.Proofs.YtfpnkcpjhbkgnaaGreatDoor
