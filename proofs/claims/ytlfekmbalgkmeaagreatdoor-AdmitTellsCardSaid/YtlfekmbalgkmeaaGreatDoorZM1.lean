import Derived.Test.YtlfekmbalgkmeaaGreatDoorChecked
import Derived.WalkKit
import Derived.Handy
import Derived.KernelRfl
import Derived.Below
import Derived.Laws.Bits64b
import Derived.Lib.TrailingZeros
import Derived.Lib.Hide
import Derived.Laws.AppendOwnNone
import Derived.Deep.AppendLies
import Derived.Maps.AppendAt
import Derived.Test.YtlfekmbalgkmeaaGreatDoorRows
import Derived.ProofKit
import Derived.OpenShut
import Derived.ShutString
import Derived.ChangeOld
import Derived.ChangeMaps5
import Derived.Test.YtlfekmbalgkmeaaGreatDoorCards
import Derived.Test.YtlfekmbalgkmeaaGreatDoorTie
import Derived.Deep.DeepHandedRow
import Derived.Lib.LaidTab
import Derived.Stop.LaidErr
set_option linter.unusedSimpArgs false
set_option linter.unnecessarySimpa false
set_option linter.unusedVariables false
set_option maxHeartbeats 1000000
namespace Go.Proofs.YtlfekmbalgkmeaaGreatDoor
open Go.RowKit
def Tab64(w:World):Prop:=∀ j,j<Lib.deBruijn64tab.length->w.cell? ⟨0,j,none⟩=some (.int .u8 (Lib.deBruijn64tab.getD j 0))
theorem Tab64.below{w w':World}{B:Nat}(h:Tab64 w)(hb:Below B w w')(hB:0<B):Tab64 w':=fun j hj=>(hb.cell (p:=⟨0,j,none⟩) hB).trans (h j hj)
theorem Tab64.lt{w:World}(h:Tab64 w):0<w.heap.size:=World.block_lt_of_cell? _ _ (h 0 (by decide))
theorem Tab64.via{w w':World}(h:Tab64 w)(hb:Below w.heap.size w w'):Tab64 w':=h.below hb h.lt
theorem tz64_core(x k idx:Nat)(w:World)(hx0:((x:Int)==0)=false)
  (key:IntKind.u64.wrap (bits BinOp.and IntKind.u64 (x:Int) (IntKind.u64.wrap (-(x:Int))) * 285870213051353865)/288230376151711744=(idx:Int))
  (hi:idx<64) (hk:k<64) (hcell:w.cell? ⟨0,idx,none⟩=some (.int .u8 k)):
  Calls Tryz.prog 117 #[.int .u64 x] w fun e w'=>e= .returned (.int .i64 k)/\w=w':=by
 go_enter Tryz.func117,Tryz.ntmps117
 go_wp2_with(simp only[key])
 go_ret;exact⟨rfl,rfl⟩
theorem tz64_at(x a:Nat)(hx:x<18446744073709551616)(hx0:x≠0)(hlow:x &&& (18446744073709551616 - x)=a):
  IntKind.u64.wrap (bits BinOp.and IntKind.u64 (x:Int) (IntKind.u64.wrap (-(x:Int))) * 285870213051353865)/288230376151711744=((a * 285870213051353865%18446744073709551616/288230376151711744:Nat):Int):=by
 have e1:IntKind.u64.wrap (-(x:Int))=((18446744073709551616 - x:Nat):Int):=by rw[IntKind.wrap_u64];omega
 rw[e1,bits_and_u64_nat x _ hx (by omega),hlow,IntKind.wrap_u64]
 omega
theorem tz64_any(x:Nat)(w:World)(hx:x<18446744073709551616)(hx0:x≠0)(hT:Tab64 w):
  Calls Tryz.prog 117 #[.int .u64 x] w fun e w'=>e= .returned (.int .i64 (Lib.ctz 64 x))/\w=w':=by
 obtain⟨hlow,hk⟩:=Lib.lowest_bit 64 x hx0 hx;obtain⟨hi,htab⟩:=Lib.deBruijn64_at _ hk;have hcell:=hT _ hi;rw[htab]at hcell;exact tz64_core x _ _ w (by simp;omega) (tz64_at x _ hx hx0 hlow) hi hk hcell
def Ints(w:World)(B:Nat)(A:Option Addr)(zs:List Int):Prop:=
 0<zs.length-> ∃b off,A=some ⟨b,off,none⟩/\b<B/\ ∀k,k<zs.length->w.cell? ⟨b,off+k,none⟩=some (.int .i64 (zs.getD k 0))
theorem Ints.at_{w:World}{B:Nat}{A:Option Addr}{zs:List Int}{k:Nat}(h:Ints w B A zs)(hk:k<zs.length):
  ∃b off z,A=some ⟨b,off,none⟩/\b<B/\zs[k]? =some z/\w.cell? ⟨b,off+k,none⟩=some (.int .i64 z):=by
 obtain⟨b,off,e,hb,hc⟩:=h (by omega)
 exact⟨b,off,zs[k],e,hb,List.getElem?_eq_getElem hk,by rw[hc k hk,List.getD_eq_getElem?_getD,List.getElem?_eq_getElem hk];rfl⟩
theorem Ints.keep{w w':World}{B:Nat}{A:Option Addr}{zs:List Int}(h:Ints w B A zs)(hk: ∀p:Addr,p.block<B->w'.cell? p=w.cell? p):Ints w' B A zs:=fun hn=>by
 obtain⟨b,off,e,hb,hc⟩:=h hn;exact⟨b,off,e,hb,fun k hk'=>(hk _ hb).trans (hc k hk')⟩
theorem Ints.more{w:World}{B B':Nat}{A:Option Addr}{zs:List Int}(h:Ints w B A zs)(hB:B<=B'):Ints w B' A zs:=fun hn=>by
 obtain⟨b,off,e,hb,hc⟩:=h hn;exact⟨b,off,e,by omega,hc⟩
theorem Ints.below{w w':World}{B:Nat}{A:Option Addr}{zs:List Int}(h:Ints w B A zs)(hb:Below B w w'):Ints w' B A zs:=h.keep fun _ hp=>hb.cell hp
theorem Ints.alloc{w:World}{B:Nat}{A:Option Addr}{zs:List Int}(h:Ints w B A zs)(hB:B<=w.heap.size)(o:Obj):Ints (w.alloc o) B A zs:=
 h.keep fun p hp=>World.cell?_alloc_lt w o p (by omega)
theorem Ints.nil_(w:World)(B:Nat)(A:Option Addr):Ints w B A []:=fun h=>absurd h (by simp)
theorem Ints.take{w:World}{B:Nat}{A:Option Addr}{zs:List Int}(h:Ints w B A zs)(i:Nat):Ints w B A (zs.take i):=fun hn=>by
 have hl:(zs.take i).length<=zs.length:=by simp;omega
 obtain⟨b,off,e,hb,hc⟩:=h (by omega)
 refine⟨b,off,e,hb,fun k hk=> ?_⟩
 have hk2:k<i:=by simp at hk;omega
 rw[hc k (by omega),List.getD_eq_getElem?_getD,List.getD_eq_getElem?_getD,List.getElem?_take,if_pos hk2]
theorem addr_add(b off j:Nat):(⟨b,off,none⟩:Addr).add j=⟨b,off+j,none⟩:=by unfold Addr.add;by_cases h0:j=0<;>simp[h0]
theorem Ints.cells{w:World}{B:Nat}{ad:Addr}{zs:List Int}(h:Ints w B (some ad) zs): ∀(j:Nat) (u:Value),(zs.map (Value.int .i64))[j]? =some u->w.cell? (ad.add j)=some u:=by
 intro j u hu;have hj:j<zs.length:=by
  rcases Nat.lt_or_ge j zs.length with hlt|hge
  ·exact hlt
  ·rw[List.getElem?_eq_none (by simpa using hge)]at hu;cases hu
 obtain⟨b,off,e,hb,hc⟩:=h (by omega)
 injection e with e;subst e;rw[addr_add,hc j hj];rw[List.getElem?_map,List.getElem?_eq_getElem hj]at hu
 rw[List.getD_eq_getElem?_getD,List.getElem?_eq_getElem hj]
 simpa using hu
theorem Ints.none_nil{w:World}{B:Nat}{zs:List Int}(h:Ints w B none zs):zs= []:=by
 rcases Nat.eq_zero_or_pos zs.length with h0|h0
 ·exact List.eq_nil_of_length_eq_zero h0
 ·obtain ⟨_,_,e,_⟩:=h h0
  cases e
theorem oneCell_ints(zs:List Int): ∀u∈zs.map (Value.int .i64),u.oneCell'=true:=by
 intro u hu;obtain⟨n,_,rfl⟩:=List.mem_map.mp hu;rfl
theorem Ints.of_own{w:World}{base:Nat}{e:TypeId}{v:Value}{zs:List Int}(h:w.ownsRow base e 1 v zs.length (zs.map (Value.int .i64))):
  ∃A c,v= .slice A zs.length c/\Ints w w.heap.size A zs:=by
 by_cases hn:0<zs.length
 ·obtain ⟨g,cap,hv,_,hlt⟩:=h.form hn
  refine⟨some ⟨g,0,none⟩,cap,hv,fun _=>⟨g,0,rfl,hlt,fun k hk=> ?_⟩⟩
  subst hv;have h1:(zs.map (Value.int .i64))[k]? =some (.int .i64 (zs.getD k 0)):=by
   rw[List.getElem?_map,List.getElem?_eq_getElem hk,List.getD_eq_getElem?_getD,List.getElem?_eq_getElem hk];rfl
  have:=h.cells (g:=g) rfl k _ h1
  rwa [addr_add]at this
 ·obtain rfl: zs = []:=List.eq_nil_of_length_eq_zero (by omega)
  rcases h.2 with⟨rfl,_⟩|⟨g,cap,cur,rfl,_⟩
  ·exact⟨none,0,rfl,Ints.nil_ _ _ _⟩
  ·exact⟨some ⟨g,0,none⟩,cap,rfl,Ints.nil_ _ _ _⟩
theorem Ints.new2(w:World)(t:TypeId)(a b:Int):Ints (w.alloc (.cells #[.int .i64 a,.int .i64 b] t)) (w.heap.size+1) (some ⟨w.heap.size,0,none⟩) [a,b]:=fun _=>by
 refine⟨_,_,rfl,by simp,fun k hk=> ?_⟩
 match k,hk with
 |0,_=>rw[World.cell?_alloc_at _ _ _ _ rfl];rfl
 |1,_=>rw[World.cell?_alloc_at _ _ _ _ rfl];rfl
theorem below_alloc{w:World}(o:Obj):Below w.heap.size w (w.alloc o):=(Below.refl _ _).alloc (Nat.le_refl _) o
end Go.Proofs.YtlfekmbalgkmeaaGreatDoor
namespace Go.Proofs.YtlfekmbalgkmeaaGreatDoor
open Go.ChangeShapes Go.WideShapes Go.ChangeAt Go.RowKit
theorem own:ownKnob Tryz.prog.godebug=none:=by kernel_rfl
theorem laidOut:laidOutB Tryz.prog=true:=by kernel_rfl
theorem cell_below{w:World}{b off:Nat}{v:Value}(h:w.cell? ⟨b,off,none⟩=some v):b<w.heap.size:=by
 rcases Nat.lt_or_ge b w.heap.size with hlt|hge
 ·exact hlt
 ·unfold World.cell? at h
  simp[Array.getElem?_eq_none hge]at h
def IsRow(k:IntKind)(w:World)(a:Option Addr)(len cap:Nat)(zs:List Int):Prop:=
 (a=none/\len=0/\cap=0/\zs= [])\/
 ∃x,a=some x/\len<=cap/\cap<=maxLen/\zs.length=cap/\(∀i,i<zs.length->w.cell? (x.add i)=some (.int k (zs.getD i 0)))/\ ∀n∈zs,(Lit.int k n).wf=true
theorem row_ints{w:World}{a:Option Addr}{len cap:Nat}{zs:List Int}(h:IsRow .i64 w a len cap zs):
  Ints w w.heap.size a (zs.take len)/\(zs.take len).length=len/\(a=none->cap=0)/\len<=9223372036854775807/\len<=cap:=by
 rcases h with⟨rfl,rfl,rfl,rfl⟩|⟨x,rfl,hl,hm,hz,hc,_⟩
 ·exact⟨Ints.nil_ _ _ _,rfl,fun _=>rfl,by omega,by omega⟩
 ·have hlen: (zs.take len).length = len:=by rw [List.length_take]; omega
  refine⟨fun hn=> ?_,hlen,(fun e=>by cases e),by unfold maxLen at hm;omega,hl⟩
  obtain⟨b,off,rfl,hc'⟩:=ints_at hc (by omega)
  refine⟨b,off,rfl,cell_below (hc' 0 (by omega)),fun k hk=> ?_⟩
  have hk2:k<len:=by omega
  rw[hc' k (by omega),List.getD_eq_getElem?_getD,List.getD_eq_getElem?_getD,List.getElem?_take,if_pos hk2]
end Go.Proofs.YtlfekmbalgkmeaaGreatDoor
namespace Go.Proofs.YtlfekmbalgkmeaaGreatDoor
open Go Go.RowKit
def DTab(w:World):Prop:=Tab64 w
theorem DTab.via{w w':World}(h:DTab w)(hb:Below w.heap.size w w'):DTab w':=Tab64.via h hb
end Go.Proofs.YtlfekmbalgkmeaaGreatDoor
namespace Go.Proofs.YtlfekmbalgkmeaaGreatDoor
open Go.ChangeShapes Go.WideShapes Go.ChangeAt Go.RowKit
theorem gTab64:Tryz.prog.globalNamed "math/bits.deBruijn64tab" =some 0:=by kernel_rfl
theorem gTab64Type:(Tryz.prog.globals[0]?).map (·.type)=some 176:=by kernel_rfl
theorem cells64:Tryz.prog.cellsOf 176=64:=by kernel_rfl
theorem cells8:Tryz.prog.cellsOf 5=1:=by kernel_rfl
theorem laidMet_tail{P:Program}{W:World}{a:String×DataW Unit}{rest:List (String×DataW Unit)}(h:laidMet P (a::rest) W):laidMet P rest W:=by
 obtain⟨ps,hv,hnd,hc⟩:=h;obtain⟨_,_,_,_,p,q,_,_,_,_,hr,rfl⟩:=hv;exact⟨q,hr,(List.nodup_append.mp hnd).2.1,fun b off hm=>hc b off (List.mem_append_right _ hm)⟩
theorem tabs_of{W:World}(h:laidMetH Tryz.prog [("math/bits.deBruijn32tab",Rows.laid_math_bits_deBruijn32tab),("math/bits.deBruijn64tab",Rows.laid_math_bits_deBruijn64tab)] W):DTab W:=by
 have h1:laidMet Tryz.prog [("math/bits.deBruijn32tab",Rows.laid_math_bits_deBruijn32tab),("math/bits.deBruijn64tab",Rows.laid_math_bits_deBruijn64tab)] W:=h
 have h2:=laidMet_tail h1;have h3:Lib.TabIs Tryz.prog W "math/bits.deBruijn64tab" .u8 (Lib.deBruijn64tab.map Int.ofNat):=
  Lib.tabIs_of_head (rest:=[]) gTab64 gTab64Type Tryz.underlying176 Tryz.underlying5 cells8 cells64 h2
 intro j hj;rw[h3.cell gTab64 j (by simpa using hj)]
 congr 2
 rw[List.getD_eq_getElem?_getD,List.getElem?_map,List.getElem?_eq_getElem hj,List.getD_eq_getElem?_getD,List.getElem?_eq_getElem hj]
 rfl
theorem wf64{a:Int}(h:(Lit.int .i64 a).wf=true): -9223372036854775808<=a/\a<=9223372036854775807:=by
 have e1:IntKind.i64.min= -9223372036854775808:=by decide
 have e2:IntKind.i64.max=9223372036854775807:=by decide
 simp[Lit.wf,e1,e2]at h;omega
def tab32:List Nat:=[0,1,28,2,29,14,24,3,30,22,20,15,25,17,4,8,31,27,13,23,21,19,16,7,26,12,18,6,11,5,10,9]
def setTab(l:List Nat):Obj->Obj
 | .cells _ t frozen=> .cells (l.map fun n=>Value.int .u8 (Int.ofNat n)).toArray t frozen
 |o=>o
noncomputable def laidWorld (os:Os):World:=
 {World.holding Tryz.prog os ⟨#[],#[],[]⟩with heap:=((World.holding Tryz.prog os ⟨#[],#[],[]⟩).heap.modify 1 (setTab tab32)).modify 0 (setTab Lib.deBruijn64tab)}
end Go.Proofs.YtlfekmbalgkmeaaGreatDoor
namespace Go.Proofs.YtlfekmbalgkmeaaGreatDoor
def chk(n:Int):Int:=if n<0 then 10 else if 1099511627775<n then 11 else 0
def ff:List Int->Int
 | []=>0
 |n::l=>if chk n=0 then ff l else chk n
theorem chk_low{n:Int}(h:n<0):chk n=10:=by unfold chk;rw[if_pos h]
theorem chk_high{n:Int}(h:1099511627775<n):chk n=11:=by unfold chk;rw[if_neg (by omega),if_pos h]
theorem chk_ok{n:Int}(h0:0<=n)(h1:n<=1099511627775):chk n=0:=by unfold chk;rw[if_neg (by omega),if_neg (by omega)]
theorem chk_zero{n:Int}(h:chk n=0):0<=n/\n<=1099511627775:=by
 by_cases h1:n<0
 ·rw[chk_low h1]at h;omega
 ·by_cases h2: 1099511627775 < n
  ·rw[chk_high h2]at h;omega
  ·omega
theorem ff_append(l r:List Int):ff (l++r)=if ff l=0 then ff r else ff l:=by
  induction l with
  |nil=>simp[ff]
  | cons n l ih =>
    by_cases h:chk n=0
    · have e1:ff (n::l)=ff l:=if_pos h;have e2:ff (n::l++r)=ff (l++r):=if_pos h;rw[e1,e2,ih]
    · have e1:ff (n::l)=chk n:=if_neg h;have e2:ff (n::l++r)=chk n:=if_neg h;rw[e1,e2,if_neg h]
theorem take_snoc{zs:List Int}{k:Nat}{z:Int}(h:zs[k]? =some z):zs.take (k+1)=zs.take k++ [z]:=by
 rw[List.take_add_one,h];rfl
theorem ff_step{zs:List Int}{k:Nat}{z:Int}(h:zs[k]? =some z)(h0:ff (zs.take k)=0):ff (zs.take (k+1))=chk z:=by
 rw[take_snoc h,ff_append,if_pos h0];show(if chk z=0 then ff []else chk z)=chk z
 by_cases hc:chk z=0
 ·rw[if_pos hc,hc];rfl
 ·rw[if_neg hc]
theorem ff_early{zs:List Int}{k:Nat}{z:Int}(h:zs[k]? =some z)(h0:ff (zs.take k)=0)(hc:chk z≠0):ff zs=chk z:=by
 have h1:=ff_step h h0;have h2:=ff_append (zs.take (k+1)) (zs.drop (k+1));rw[List.take_append_drop,h1,if_neg hc]at h2;exact h2
theorem ff_prefix{zs:List Int}(k:Nat)(h:ff zs=0):ff (zs.take k)=0:=by
 have h2:=ff_append (zs.take k) (zs.drop k);rw[List.take_append_drop,h]at h2
 by_cases h0:ff (zs.take k)=0
 ·exact h0
 ·rw[if_neg h0]at h2;omega
theorem ff_mem{zs:List Int}(h:ff zs=0){k:Nat}{z:Int}(hz:zs[k]? =some z):0<=z/\z<=1099511627775:=by
 have h1:=ff_step hz (ff_prefix k h);rw[ff_prefix (k+1) h]at h1;exact chk_zero h1.symm
theorem ff_pair(a b:Int):ff [a,b]=if chk a=0 then chk b else chk a:=by
 show(if chk a=0 then(if chk b=0 then 0 else chk b)else chk a)=_
 by_cases h:chk b=0
 ·rw[if_pos h,h]
 ·rw[if_neg h]
theorem ff_pair_zero{a b:Int}(h:ff [a,b]=0):(0<=a/\a<=1099511627775)/\0<=b/\b<=1099511627775:=by
 exact⟨ff_mem h (k:=0) rfl,ff_mem h (k:=1) rfl⟩
theorem ff_pair_ok{a b:Int}(a0:0<=a)(a1:a<=1099511627775)(b0:0<=b)(b1:b<=1099511627775):ff [a,b]=0:=by
 rw[ff_pair,chk_ok a0 a1,if_pos rfl,chk_ok b0 b1]
def subS(a b:Int):Int:=if ff [a,b]=0 then(if a<b then 0 else a - b)else 0
def subE(a b:Int):Int:=if ff [a,b]=0 then(if a<b then 10 else 0)else ff [a,b]
def downS(a b:Int):Int:=if ff [a,b]=0 then(if b=0 then 0 else a/b)else 0
def downE(a b:Int):Int:=if ff [a,b]=0 then(if b=0 then 12 else 0)else ff [a,b]
def upS(a b:Int):Int:=if ff [a,b]=0 then(if b=0 then 0 else if a/b * b<a then a/b+1 else a/b)else 0
theorem subS_bad{a b:Int}(h:ff [a,b]≠0):subS a b=0:=if_neg h
theorem subE_bad{a b:Int}(h:ff [a,b]≠0):subE a b=ff [a,b]:=if_neg h
theorem subS_low{a b:Int}(h:ff [a,b]=0)(h1:a<b):subS a b=0:=by unfold subS;rw[if_pos h,if_pos h1]
theorem subE_low{a b:Int}(h:ff [a,b]=0)(h1:a<b):subE a b=10:=by unfold subE;rw[if_pos h,if_pos h1]
theorem subS_fine{a b:Int}(h:ff [a,b]=0)(h1:b<=a):subS a b=a - b:=by unfold subS;rw[if_pos h,if_neg (by omega)]
theorem subE_fine{a b:Int}(h:ff [a,b]=0)(h1:b<=a):subE a b=0:=by unfold subE;rw[if_pos h,if_neg (by omega)]
theorem downS_bad{a b:Int}(h:ff [a,b]≠0):downS a b=0:=if_neg h
theorem downE_bad{a b:Int}(h:ff [a,b]≠0):downE a b=ff [a,b]:=if_neg h
theorem downS_zero{a b:Int}(h:ff [a,b]=0)(h1:b=0):downS a b=0:=by unfold downS;rw[if_pos h,if_pos h1]
theorem downE_zero{a b:Int}(h:ff [a,b]=0)(h1:b=0):downE a b=12:=by unfold downE;rw[if_pos h,if_pos h1]
theorem downS_fine{a b:Int}(h:ff [a,b]=0)(h1:b≠0):downS a b=a/b:=by unfold downS;rw[if_pos h,if_neg h1]
theorem downE_fine{a b:Int}(h:ff [a,b]=0)(h1:b≠0):downE a b=0:=by unfold downE;rw[if_pos h,if_neg h1]
theorem upS_bad{a b:Int}(h:ff [a,b]≠0):upS a b=0:=if_neg h
theorem upS_zero{a b:Int}(h:ff [a,b]=0)(h1:b=0):upS a b=0:=by unfold upS;rw[if_pos h,if_pos h1]
theorem upS_more{a b:Int}(h:ff [a,b]=0)(h1:b≠0)(h2:a/b * b<a):upS a b=a/b+1:=by unfold upS;rw[if_pos h,if_neg h1,if_pos h2]
theorem upS_even{a b:Int}(h:ff [a,b]=0)(h1:b≠0)(h2: ¬a/b * b<a):upS a b=a/b:=by unfold upS;rw[if_pos h,if_neg h1,if_neg h2]
theorem div_bounds{a b:Int}(ha:0<=a)(ha1:a<=1099511627775)(hb:0<b):0<=a/b/\a/b<=1099511627775/\0<=a/b * b/\a/b * b<=a/\a - a/b * b<b:=by
 have h1:0<=a/b:=Int.ediv_nonneg ha (by omega)
 have h2:a/b<=a:=Int.ediv_le_self b ha;have h3:a/b * b<=a:=Int.ediv_mul_le a (by omega)
 have h4:0<=a/b * b:=Int.mul_nonneg h1 (by omega)
 have h5:a<(a/b+1) * b:=Int.lt_ediv_add_one_mul_self a hb;have h6:(a/b+1) * b=a/b * b+b:=by rw[Int.add_mul,Int.one_mul]
 omega
end Go.Proofs.YtlfekmbalgkmeaaGreatDoor
namespace Go.Proofs.YtlfekmbalgkmeaaGreatDoor
open Go Go.RowKit
structure Shp where
 t:Int
 l:Int
 m:Int
 d:Int
 p:Int
def Shp.val(s:Shp):Value:=.agg #[.int .i64 s.t,.int .i64 s.l,.int .i64 s.m,.int .i64 s.d,.int .i64 s.p]
def isP(n:Int):Bool:=(List.range 13).any fun k=>decide (n=((2^k:Nat):Int))
theorem isP_iff{n:Int}:isP n=true↔ ∃k:Nat,k<13/\n=((2^k:Nat):Int):=by
 unfold isP;rw[List.any_eq_true];constructor
 ·rintro ⟨k,hk,e⟩
  exact⟨k,List.mem_range.mp hk,of_decide_eq_true e⟩
 ·rintro ⟨k,hk,e⟩
  exact⟨k,List.mem_range.mpr hk,decide_eq_true e⟩
theorem isP_le{n:Int}(h:isP n=true):1<=n/\n<=4096:=by
 obtain⟨k,hk,rfl⟩:=isP_iff.mp h;have:k=0\/k=1\/k=2\/k=3\/k=4\/k=5\/k=6\/k=7\/k=8\/k=9\/k=10\/k=11\/k=12:=by omega
 rcases this with rfl|rfl|rfl|rfl|rfl|rfl|rfl|rfl|rfl|rfl|rfl|rfl|rfl<;>decide
theorem isP_pow{k:Nat}:isP ((2^k:Nat):Int)=decide (((2^k:Nat):Int)<=4096):=by
 by_cases h:k<13
 ·have h1:=isP_iff.mpr ⟨k,h,rfl⟩
  rw[h1,decide_eq_true (isP_le h1).2]
 ·have h2: (2: Nat) ^ 13 <= 2 ^ k:=Nat.pow_le_pow_right (by omega) (by omega)
  have h3: ¬(((2^k:Nat):Int)<=4096):=by
   have:(2:Nat)^13=8192:=by decide
   omega
  rw[decide_eq_false h3]
  by_cases q:isP ((2^k:Nat):Int)=true
  ·exact absurd (isP_le q).2 h3
  ·simpa using q
theorem isP_no{n:Int}(h: ∀k:Nat,k<40->n≠((2^k:Nat):Int)):isP n=false:=by
 by_cases q:isP n=true
 ·obtain ⟨k,hk,e⟩:=isP_iff.mp q
  exact absurd e (h k (by omega))
 ·simpa using q
def Shp.Ok(s:Shp):Prop:=(1<=s.t/\s.t<=4096)/\(1<=s.l/\s.l<=s.t)/\(1<=s.m/\s.m<=s.l)/\isP s.p=true/\1<=s.d/\s.d<=s.p
instance (s:Shp):Decidable s.Ok:=by unfold Shp.Ok;infer_instance
theorem Shp.Ok.le{s:Shp}(h:s.Ok):s.p<=4096:=(isP_le h.2.2.2.1).2
def chkS(s:Shp):Int:=if s.Ok then 0 else 140
theorem chkS_ok{s:Shp}(h:s.Ok):chkS s=0:=if_pos h
theorem chkS_no{s:Shp}(h: ¬s.Ok):chkS s=140:=if_neg h
def manyS(s:Shp):Int:=upS (s.t - s.l) (s.d - s.l)
def coresH(s:Shp):Int:=if s.d<=s.l then 0 else if 8<manyS s then 0 else manyS s
def faultH(s:Shp):Int:=if s.d<=s.l then 141 else if 8<manyS s then 142 else 0
def coresS(s:Shp):Int:=if¬s.Ok then 0 else if s.d<s.t then coresH s else 1
def faultS(s:Shp):Int:=if¬s.Ok then 140 else if s.d<s.t then faultH s else 0
def heavyS(s:Shp):Bool:=decide (s.Ok/\s.d<s.t)
theorem many_spec{s:Shp}(h:s.Ok)(hd:s.d<s.t)(hl:s.l<s.d):
  2<=manyS s/\s.t - s.l<=manyS s * (s.d - s.l)/\(manyS s - 1) * (s.d - s.l)<s.t - s.l:=by
 obtain⟨⟨t0,t1⟩,⟨l0,l1⟩,⟨m0,m1⟩,-,d0,d1⟩:=h;have hf:ff [s.t - s.l,s.d - s.l]=0:=ff_pair_ok (by omega) (by omega) (by omega) (by omega)
 have hb0:s.d - s.l≠0:=by omega
 obtain⟨a,ha⟩: ∃a,a=s.t - s.l:=⟨_,rfl⟩;obtain⟨b,hb⟩: ∃b,b=s.d - s.l:=⟨_,rfl⟩;unfold manyS;rw[<-ha,<-hb]at hf⊢;rw[<-hb]at hb0;have hab:b<a:=by omega
 have hbp:0<b:=by omega
 obtain⟨q0,q1,q2,q3,q4⟩:=div_bounds (a:=a) (b:=b) (by omega) (by omega) hbp
 by_cases hm:a/b * b<a
 ·rw [upS_more hf hb0 hm]
  have e1:(a/b+1) * b=a/b * b+b:=by rw[Int.add_mul,Int.one_mul]
  have q5:1<=a/b:=by
   by_cases hq:1<=a/b
   ·exact hq
   ·have: a / b = 0:=by omega
    rw[this]at q4;omega
  refine⟨by omega,by omega,?_⟩
  have e2:a/b+1 - 1=a/b:=by omega
  rw[e2];exact hm
 ·rw [upS_even hf hb0 hm]
  have e3:a/b * b=a:=by omega
  have q5:2<=a/b:=by
   by_cases hq:2<=a/b
   ·exact hq
   ·have: a / b = 0 \/ a / b = 1:=by omega
    rcases this with h0|h0<;>rw[h0]at e3<;>omega
  refine⟨q5,by omega,?_⟩
  rw[Int.sub_mul,Int.one_mul];omega
def sumE(f:Shp->Int):List Shp->Int
 | []=>0
 |s::L=>f s+sumE f L
def maxE(f:Shp->Int):List Shp->Int
 | []=>0
 |s::L=>max (f s) (maxE f L)
theorem sumE_app(f:Shp->Int): ∀A B:List Shp,sumE f (A++B)=sumE f A+sumE f B
  | [],B=>by simp[sumE]
  | s :: A, B => by
    have:=sumE_app f A B;simp only[List.cons_append,sumE];omega
theorem maxE_nonneg(f:Shp->Int): ∀A:List Shp,0<=maxE f A
  | []=>Int.le_refl _
  | s :: A => by
    have:=maxE_nonneg f A;simp only[maxE];omega
theorem maxE_app(f:Shp->Int): ∀A B:List Shp,maxE f (A++B)=max (maxE f A) (maxE f B)
  | [], B => by
    have:=maxE_nonneg f B;simp only[List.nil_append,maxE];omega
  | s :: A, B => by
    have:=maxE_app f A B;simp only[List.cons_append,maxE];omega
theorem sumE_snoc{f:Shp->Int}{L:List Shp}{k:Nat}{s:Shp}(h:L[k]? =some s):sumE f (L.take (k+1))=sumE f (L.take k)+f s:=by
 rw[List.take_add_one,h,sumE_app];simp[sumE]
theorem maxE_snoc{f:Shp->Int}{L:List Shp}{k:Nat}{s:Shp}(h:L[k]? =some s):maxE f (L.take (k+1))=max (maxE f (L.take k)) (f s):=by
 have h0:=maxE_nonneg f (L.take k);rw[List.take_add_one,h,maxE_app];simp only[Option.toList_some,maxE];omega
theorem maxE_ge{f:Shp->Int}: ∀{L:List Shp} {s:Shp},s∈L->f s<=maxE f L
  | x :: L, s, h => by
    simp only[maxE];rcases List.mem_cons.mp h with rfl|h
    · omega
    · have:=maxE_ge (f:=f) h;omega
theorem maxE_le{f:Shp->Int}{b:Int}(hb:0<=b): ∀{L:List Shp},(∀s∈L,f s<=b)->maxE f L<=b
  | [],_=>hb
  | x :: L, h => by
    have h1:=h x (List.mem_cons_self ..);have h2:=maxE_le (f:=f) hb (L:=L) (fun s hs=>h s (List.mem_cons_of_mem _ hs))
    simp only[maxE];omega
theorem maxE_in{f:Shp->Int}: ∀{L:List Shp},maxE f L=0\/ ∃s∈L,maxE f L=f s
  | []=> .inl rfl
  | x :: L => by
    rcases maxE_in (f:=f) (L:=L)with h|⟨s,hs,h⟩
    · by_cases hx:f x<=0
      · left;simp only[maxE];omega
      · right;exact⟨x,List.mem_cons_self ..,by simp only[maxE];omega⟩
    · by_cases hx:f x<=f s
      · right;exact⟨s,List.mem_cons_of_mem _ hs,by simp only[maxE];omega⟩
      · right;exact⟨x,List.mem_cons_self ..,by simp only[maxE];omega⟩
def LightS(s:Shp):Prop:=s.Ok/\s.t<=s.d
instance (s:Shp):Decidable (LightS s):=by unfold LightS;infer_instance
def MayE(L:List Shp):Prop:=L.length<=8/\ ∀s∈L,LightS s
instance (L:List Shp):Decidable (MayE L):=by unfold MayE;infer_instance
def chkEd(L:List Shp):Int:=if MayE L then 0 else 150
theorem chkEd_ok{L:List Shp}(h:MayE L):chkEd L=0:=if_pos h
theorem chkEd_no{L:List Shp}(h: ¬MayE L):chkEd L=150:=if_neg h
theorem LightS.nums{s:Shp}(h:LightS s):1<=s.t/\s.t<=s.d/\1<=s.m/\s.m<=s.t/\1<=s.d/\s.d<=s.p/\s.p<=4096:=by
 obtain⟨⟨⟨t0,t1⟩,⟨l0,l1⟩,⟨m0,m1⟩,hp,d0,d1⟩,hl⟩:=h;have:=isP_le hp;omega
def dem1(t:Int)(s:Shp):Int:=if t<s.d then 0 else s.t * (1+(t - s.d)/s.p)
def blk1(t:Int)(s:Shp):Int:=if s.d<=t then 0 else s.m
def demE(L:List Shp)(t:Int):Int:=sumE (dem1 t) L
def blkE(L:List Shp)(t:Int):Int:=maxE (blk1 t) L
def horE(L:List Shp):Int:=if MayE L then maxE Shp.p L else 0
def AtE(L:List Shp)(t:Int):Prop:=demE L t=0\/demE L t+blkE L t<=t
def FitE(L:List Shp):Prop:=MayE L/\ ∀t,1<=t->t<=horE L->AtE L t
theorem dem1_low{t:Int}{s:Shp}(h:t<s.d):dem1 t s=0:=if_pos h
theorem dem1_high{t:Int}{s:Shp}(h: ¬t<s.d):dem1 t s=s.t * (1+(t - s.d)/s.p):=if_neg h
theorem dem1_le{t:Int}{s:Shp}(h:LightS s)(ht:0<=t):0<=dem1 t s/\dem1 t s<=t/\(s.d<=t->s.t<=dem1 t s):=by
 obtain⟨h1,h2,-,-,h5,h6,-⟩:=h.nums
 by_cases hd:t<s.d
 ·rw[dem1_low hd];omega
 ·rw [dem1_high hd]
  obtain⟨q,hq⟩: ∃q,q=(t - s.d)/s.p:=⟨_,rfl⟩;have q0:0<=q:=by rw[hq];exact Int.ediv_nonneg (by omega) (by omega)
  have q1:q * s.p<=t - s.d:=by rw[hq];exact Int.ediv_mul_le _ (by omega)
  rw[<-hq];have e:s.t * (1+q)=s.t+s.t * q:=by rw[Int.mul_add,Int.mul_one]
  have e2:0<=s.t * q:=Int.mul_nonneg (by omega) q0
  have e3:s.t * q<=s.p * q:=Int.mul_le_mul_of_nonneg_right (by omega) q0
  rw[Int.mul_comm q]at q1;rw[e];refine⟨by omega,by omega,fun _=>by omega⟩
theorem sumE_le{f g:Shp->Int}: ∀{L:List Shp},(∀s∈L,f s<=g s)->sumE f L<=sumE g L
  | [],_=>Int.le_refl _
  | s :: L, h => by
    have h1:=h s (List.mem_cons_self ..);have h2:=sumE_le (L:=L) (fun x hx=>h x (List.mem_cons_of_mem _ hx))
    simp only[sumE];omega
theorem sumE_nonneg{f:Shp->Int}: ∀{L:List Shp},(∀s∈L,0<=f s)->0<=sumE f L
  | [],_=>Int.le_refl _
  | s :: L, h => by
    have h1:=h s (List.mem_cons_self ..);have h2:=sumE_nonneg (L:=L) (fun x hx=>h x (List.mem_cons_of_mem _ hx))
    simp only[sumE];omega
theorem sumE_const{c:Int}: ∀{L:List Shp},sumE (fun _=>c) L=L.length * c
  | []=>by simp[sumE]
  | s :: L => by
    have:=sumE_const (c:=c) (L:=L);simp only[sumE,List.length_cons,this,Int.natCast_add,Int.add_mul];omega
theorem sumE_add{f g:Shp->Int}: ∀{L:List Shp},sumE (fun s=>f s+g s) L=sumE f L+sumE g L
  | []=>rfl
  | s :: L => by
    have:=sumE_add (f:=f) (g:=g) (L:=L);simp only[sumE,this];omega
theorem sumE_eq{f g:Shp->Int}: ∀{L:List Shp},(∀s∈L,f s=g s)->sumE f L=sumE g L
  | [],_=>rfl
  | s :: L, h => by
    have h1:=h s (List.mem_cons_self ..);have h2:=sumE_eq (L:=L) (fun x hx=>h x (List.mem_cons_of_mem _ hx))
    simp only[sumE];omega
theorem MayE.take{L:List Shp}(h:MayE L)(k:Nat):MayE (L.take k):=⟨by have:=h.1;simp;omega,fun s hs=>h.2 s (List.mem_of_mem_take hs)⟩
theorem demE_le{L:List Shp}{t:Int}(h:MayE L)(ht:0<=t):0<=demE L t/\demE L t<=8 * t:=by
 refine⟨sumE_nonneg fun s hs=>(dem1_le (h.2 s hs) ht).1,?_⟩
 have h1:demE L t<=sumE (fun _=>t) L:=sumE_le fun s hs=>(dem1_le (h.2 s hs) ht).2.1
 rw[sumE_const]at h1;have h2:(L.length:Int) * t<=8 * t:=Int.mul_le_mul_of_nonneg_right (by have:=h.1;omega) ht
 omega
theorem blk1_le{t:Int}{s:Shp}(h:LightS s):0<=blk1 t s/\blk1 t s<=4096:=by
 obtain⟨h1,h2,h3,h4,h5,h6,h7⟩:=h.nums;unfold blk1
 split<;>omega
theorem blkE_le{L:List Shp}{t:Int}(h:MayE L):0<=blkE L t/\blkE L t<=4096:=⟨maxE_nonneg _ _,maxE_le (by decide) fun s hs=>(blk1_le (h.2 s hs)).2⟩
theorem hor_ge{L:List Shp}{s:Shp}(h:MayE L)(hs:s∈L):s.p<=horE L:=by
 unfold horE;rw[if_pos h];exact maxE_ge (f:=Shp.p) hs
theorem hor_le{L:List Shp}:0<=horE L/\horE L<=4096:=by
 unfold horE
 split
 ·rename_i h
  exact⟨maxE_nonneg _ _,maxE_le (by decide) fun s hs=>(h.2 s hs).nums.2.2.2.2.2.2⟩
 ·omega
theorem pow_dvd{p h:Int}(hp:isP p=true)(hh:isP h=true)(hle:p<=h): ∃k:Int,1<=k/\h=k * p:=by
 obtain⟨i,hi,rfl⟩:=isP_iff.mp hp;obtain⟨j,hj,rfl⟩:=isP_iff.mp hh;have hij:i<=j:=by
  rcases Nat.lt_or_ge j i with h|h
  ·have: 2 ^ j < 2 ^ i:=Nat.pow_lt_pow_right (by decide) h
   omega
  ·exact h
 refine⟨((2^(j - i):Nat):Int),?_,?_⟩
 ·have: 0 < 2 ^ (j - i):=Nat.pow_pos (by decide)
  omega
 ·rw [<- Int.natCast_mul,<- Nat.pow_add]
  congr 2
  omega
theorem dem1_more{s:Shp}(h:LightS s){t k:Int}(ht:0<=t)(hk:1<=k):dem1 (t+k * s.p) s=dem1 t s+dem1 (k * s.p) s:=by
 obtain⟨h1,h2,-,-,h5,h6,-⟩:=h.nums;have kp:s.p<=k * s.p:=by
  have:=Int.mul_le_mul_of_nonneg_right hk (show 0<=s.p by omega)
  omega
 have e1:(k * s.p - s.d)/s.p=k - 1:=by
  have:k * s.p - s.d=(s.p - s.d)+(k - 1) * s.p:=by rw[Int.sub_mul,Int.one_mul];omega
  rw[this,Int.add_mul_ediv_right _ _ (by omega),Int.ediv_eq_zero_of_lt (by omega) (by omega)]
  omega
 rw[dem1_high (t:=t+k * s.p) (by omega),dem1_high (t:=k * s.p) (by omega),e1]
 have e2:(t+k * s.p - s.d)/s.p=(t - s.d)/s.p+k:=by
  have:t+k * s.p - s.d=(t - s.d)+k * s.p:=by omega
  rw[this,Int.add_mul_ediv_right _ _ (by omega)]
 rw[e2]
 by_cases hd:t<s.d
 ·rw [dem1_low hd]
  have e3:(t - s.d)/s.p= -1:=by
   have h0:t - s.d=(t - s.d+s.p)+(-1) * s.p:=by omega
   rw[h0,Int.add_mul_ediv_right _ _ (by omega),Int.ediv_eq_zero_of_lt (by omega) (by omega)]
   omega
  rw[e3];have:1+(-1+k)=1+(k - 1):=by omega
  rw[this];omega
 ·rw [dem1_high hd,<- Int.mul_add]
  congr 1
  omega
theorem hor_mul{L:List Shp}{s:Shp}(h:MayE L)(hs:s∈L): ∃k:Int,1<=k/\horE L=k * s.p:=by
 have hge:=hor_ge h hs;have h0:=(h.2 s hs).nums;have e:horE L=maxE Shp.p L:=if_pos h;rcases maxE_in (f:=Shp.p) (L:=L)with h1|⟨x,hx,h1⟩
 ·omega
 ·rw [e,h1] at hge ⊢
  exact pow_dvd (h.2 s hs).1.2.2.2.1 (h.2 x hx).1.2.2.2.1 hge
theorem demE_more{L:List Shp}(h:MayE L){t:Int}(ht:0<=t):demE L (t+horE L)=demE L t+demE L (horE L):=by
 unfold demE;rw[<-sumE_add];apply sumE_eq;intro s hs;obtain⟨k,hk,e⟩:=hor_mul h hs;rw[e];exact dem1_more (h.2 s hs) ht hk
theorem blkE_far{L:List Shp}(h:MayE L){t:Int}(ht:horE L<=t):blkE L t=0:=by
 have h1:blkE L t<=0:=maxE_le (Int.le_refl _) fun s hs=>by
  have:=hor_ge h hs;have:=(h.2 s hs).nums;unfold blk1;rw[if_pos (by omega)]
  omega
 have:=(blkE_le (t:=t) h).1;omega
theorem fit_always{L:List Shp}(h:FitE L){t:Int}(ht:1<=t):AtE L t:=by
  obtain⟨hm,hf⟩:=h
  by_cases h0:L= []
  · subst h0;exact .inl rfl
  have hH:1<=horE L:=by
    obtain⟨s,hs⟩:=List.exists_mem_of_ne_nil L h0;have:=hor_ge hm hs;have:=(hm.2 s hs).nums;omega
  have hd:demE L (horE L)<=horE L:=by
    have hb:=(blkE_le (t:=horE L) hm).1;rcases hf _ hH (Int.le_refl _)with h1|h1<;>omega
  have key: ∀n:Nat,∀t:Int,1<=t->t<=n->AtE L t:=by
    intro n
    induction n with
    |zero=>intro t h1 h2;omega
    | succ n ih =>
      intro t h1 h2
      by_cases hl:t<=horE L
      · exact hf t h1 hl
      · have e:=demE_more hm (t:=t - horE L) (by omega)
        rw[show t - horE L+horE L=t by omega]at e
        have hz:=blkE_far hm (t:=t) (by omega)
        have hb:=(blkE_le (t:=t - horE L) hm).1;rcases ih (t - horE L) (by omega) (by omega)with h3|h3
        · right;omega
        · right;omega
  exact key t.toNat t ht (by omega)
theorem fit_less{L M:List Shp}(h:FitE L)(hl:M.length<=L.length)(hs: ∀s∈M,s∈L)(hd: ∀t,0<=t->demE M t<=demE L t):FitE M:=by
 have hm:MayE M:=⟨by have:=h.1.1;omega,fun s k=>h.1.2 s (hs s k)⟩
 refine⟨hm,fun t h1 _=> ?_⟩
 have h2:=fit_always h h1;have h3:=hd t (by omega)
 have h4:blkE M t<=blkE L t:=maxE_le (maxE_nonneg _ _) fun s k=>maxE_ge (f:=blk1 t) (hs s k)
 have h5:=(demE_le hm (t:=t) (by omega)).1
 unfold AtE at h2⊢;omega
theorem demE_cons(s:Shp)(L:List Shp)(t:Int):demE (s::L) t=dem1 t s+demE L t:=rfl
theorem demE_app(A B:List Shp)(t:Int):demE (A++B) t=demE A t+demE B t:=sumE_app _ _ _
theorem fit_cut{A B:List Shp}{s:Shp}(h:FitE (A++s::B)):FitE (A++B):=by
 refine fit_less h (by simp) (fun x hx=>by simp at hx⊢;rcases hx with h|h<;>simp[h]) (fun t ht=> ?_)
 have:=(dem1_le (h.1.2 s (by simp)) ht).1
 rw[demE_app,demE_app,demE_cons];omega
theorem fit_alone{s:Shp}(h:LightS s):FitE [s]:=by
 have hm:MayE [s]:=⟨by simp,fun x hx=>by rw[List.mem_singleton.mp hx];exact h⟩
 refine⟨hm,fun t h1 _=> ?_⟩
 have h2:=dem1_le h (t:=t) (by omega)
 by_cases hd:t<s.d
 ·left;rw[demE_cons,dem1_low hd];rfl
 ·right
  have e:blkE [s] t=0:=by
   show max (blk1 t s) 0=0
   have:blk1 t s=0:=if_pos (by omega)
   omega
  rw[e,demE_cons];show _+0+0<=_
  omega
theorem dem_at{s:Shp}(h:LightS s):demE [s] s.d=s.t:=by
 rw[demE_cons,dem1_high (by omega)]
 have:=h.nums;have e:s.d - s.d=0:=by omega
 rw[e,Int.zero_ediv];show _+0=_
 omega
theorem fit_two{s:Shp}(h:LightS s):FitE [s,s]↔2 * s.t<=s.d:=by
 have hm:MayE [s,s]:=⟨by simp,fun x hx=>by simp at hx;rw[hx];exact h⟩
 have hn:=h.nums;have b0: ∀t,s.d<=t->blkE [s,s] t=0:=fun t ht=>by
  show max (blk1 t s) (max (blk1 t s) 0)=0
  have:blk1 t s=0:=if_pos ht;omega
 have d2: ∀t,demE [s,s] t=dem1 t s+dem1 t s:=fun t=>by
  rw[demE_cons,demE_cons];show _+(_+0)=_;omega
 constructor
 ·intro hf
  have h1:=fit_always hf (t:=s.d) (by omega)
  have h2:=dem_at h;rw[demE_cons]at h2;have h3:dem1 s.d s=s.t:=by have h4:dem1 s.d s+0=s.t:=h2;omega
  unfold AtE at h1;rw[d2,b0 _ (Int.le_refl _),h3]at h1;omega
 ·intro h2
  refine⟨hm,fun t h1 _=> ?_⟩
  by_cases hd:t<s.d
  ·left;rw[d2,dem1_low hd];rfl
  ·right
   rw[d2,b0 t (by omega),dem1_high hd]
   obtain⟨q,hq⟩: ∃q,q=(t - s.d)/s.p:=⟨_,rfl⟩;have q0:0<=q:=by rw[hq];exact Int.ediv_nonneg (by omega) (by omega)
   have q1:q * s.p<=t - s.d:=by rw[hq];exact Int.ediv_mul_le _ (by omega)
   rw[<-hq];have e:s.t * (1+q)=s.t+s.t * q:=by rw[Int.mul_add,Int.mul_one]
   have e3:(2 * s.t) * q<=s.p * q:=Int.mul_le_mul_of_nonneg_right (by omega) q0
   have e4:(2 * s.t) * q=s.t * q+s.t * q:=by rw[Int.two_mul,Int.add_mul]
   rw[Int.mul_comm q]at q1;rw[e];omega
end Go.Proofs.YtlfekmbalgkmeaaGreatDoor
