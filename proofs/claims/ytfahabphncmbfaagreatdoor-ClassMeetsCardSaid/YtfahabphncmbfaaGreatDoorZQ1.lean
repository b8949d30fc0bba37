import Derived.Test.YtfahabphncmbfaaGreatDoorChecked
import Derived.Handy
import Derived.Lib.TrailingZeros
import Derived.Lib.Hide
import Derived.Laws.AppendOwnNone
import Derived.Deep.AppendLies
import Derived.Test.YtfahabphncmbfaaGreatDoorRows
import Derived.ShutString
import Derived.Test.YtfahabphncmbfaaGreatDoorCards
import Derived.Test.YtfahabphncmbfaaGreatDoorTie
import Derived.Deep.DeepHandedRow
import Derived.Lib.LaidTab
import Derived.Stop.LaidErr
set_option linter.all false
set_option maxHeartbeats 1000000
namespace Go.Proofs.YtfahabphncmbfaaGreatDoor
open Go.RowKit
open Go.Lib renaming hid→Zf
open List renaming getD_eq_getElem?_getD→Zi,getElem?_eq_getElem→Zh,getElem?_map→ZO,getElem?_take→YO,mem_range→ZD,take_append_drop→Yy,take_length→Y6
open Nat renaming le_refl→Zm,lt_or_ge→Zv,zero_le→Zu
open Go.Proofs.Tryz renaming prog→Zg
open Go.Proofs.Tryz
theorem Za{p q:Prop}(h:p)(d:¬p:=by decide):q:=absurd h d
theorem Zb{c:Prop}{h:Decidable c}(n:¬c){α:Sort _}{t e:α}:ite c t e=e:=if_neg n
theorem Zc{c:Prop}{h:Decidable c}(n:c){α:Sort _}{t e:α}:ite c t e=t:=if_pos n
theorem Zd{p:Prop}[Decidable p](h:¬p):decide p=false:=decide_eq_false h
theorem Ze{p:Prop}[Decidable p](h:p):decide p=true:=decide_eq_true h
def Tab64(w:World):Prop:=∀ j,j<Lib.deBruijn64tab.length->w.cell? ⟨0,j,none⟩=some (.int .u8 (Lib.deBruijn64tab.getD j 0))
theorem Tab64.below{w w':World}{B:Nat}(h:Tab64 w)(hb:Below B w w')(hB:0<B):Tab64 w':=fun j hj=>(hb.cell (p:=⟨0,j,none⟩) hB).trans (h j hj)
theorem Tab64.lt{w:World}(h:Tab64 w):0<w.heap.size:=World.block_lt_of_cell? _ _ (h 0 (by decide))
theorem Tab64.via{w w':World}(h:Tab64 w)(hb:Below w.heap.size w w'):Tab64 w':=h.below hb h.lt
theorem Zmw(x k idx:Nat)(w:World)(hx0:((x:Int)==0)=false)
  (key:IntKind.u64.wrap (bits BinOp.and IntKind.u64 (x:Int) (IntKind.u64.wrap (-(x:Int))) * 285870213051353865)/288230376151711744=(idx:Int))
  (hi:idx<64)(hk:k<64)(hcell:w.cell? ⟨0,idx,none⟩=some (.int .u8 k)):
  Calls Zg 170 #[.int .u64 x] w fun e w'=>e=.returned (.int .i64 k)/\w=w':=by
 go_enter func170,ntmps170;go_wp2_with(simp only[key]);go_ret;exact⟨rfl,rfl⟩
theorem ZqE(x a:Nat)(hx:x<18446744073709551616)(hx0:x≠0)(hlow:x &&& (18446744073709551616 - x)=a):
  IntKind.u64.wrap (bits BinOp.and IntKind.u64 (x:Int) (IntKind.u64.wrap (-(x:Int))) * 285870213051353865)/288230376151711744=((a * 285870213051353865%18446744073709551616/288230376151711744:Nat):Int):=by
 have e1:IntKind.u64.wrap (-(x:Int))=((18446744073709551616 - x:Nat):Int):=by rw[IntKind.wrap_u64];omega
 rw[e1,bits_and_u64_nat x _ hx (by omega),hlow,IntKind.wrap_u64];omega
theorem Zhp(x:Nat)(w:World)(hx:x<18446744073709551616)(hx0:x≠0)(hT:Tab64 w):
  Calls Zg 170 #[.int .u64 x] w fun e w'=>e=.returned (.int .i64 (Lib.ctz 64 x))/\w=w':=by
 obtain⟨hlow,hk⟩:=Lib.lowest_bit 64 x hx0 hx;obtain⟨hi,htab⟩:=Lib.deBruijn64_at _ hk;have hcell:=hT _ hi;rw[htab]at hcell;exact Zmw x _ _ w (by simp;omega) (ZqE x _ hx hx0 hlow) hi hk hcell
def Ints(w:World)(B:Nat)(A:Option Addr)(zs:List Int):Prop:=
 0<zs.length->∃b off,A=some ⟨b,off,none⟩/\b<B/\∀k,k<zs.length->w.cell? ⟨b,off+k,none⟩=some (.int .i64 (zs.getD k 0))
theorem Ints.at_{w:World}{B:Nat}{A:Option Addr}{zs:List Int}{k:Nat}(h:Ints w B A zs)(hk:k<zs.length):
  ∃b off z,A=some ⟨b,off,none⟩/\b<B/\zs[k]?=some z/\w.cell? ⟨b,off+k,none⟩=some (.int .i64 z):=by
 obtain⟨b,off,e,hb,hc⟩:=h (by omega);exact⟨b,off,zs[k],e,hb,Zh hk,by rw[hc k hk,Zi,Zh hk];rfl⟩
theorem Ints.keep{w w':World}{B:Nat}{A:Option Addr}{zs:List Int}(h:Ints w B A zs)(hk:∀p:Addr,p.block<B->w'.cell? p=w.cell? p):Ints w' B A zs:=fun hn=>by obtain⟨b,off,e,hb,hc⟩:=h hn;exact⟨b,off,e,hb,fun k hk'=>(hk _ hb).trans (hc k hk')⟩
theorem Ints.more{w:World}{B B':Nat}{A:Option Addr}{zs:List Int}(h:Ints w B A zs)(hB:B<=B'):Ints w B' A zs:=fun hn=>by obtain⟨b,off,e,hb,hc⟩:=h hn;exact⟨b,off,e,by omega,hc⟩
theorem Ints.below{w w':World}{B:Nat}{A:Option Addr}{zs:List Int}(h:Ints w B A zs)(hb:Below B w w'):Ints w' B A zs:=h.keep fun _ hp=>hb.cell hp
theorem Ints.alloc{w:World}{B:Nat}{A:Option Addr}{zs:List Int}(h:Ints w B A zs)(hB:B<=w.heap.size)(o:Obj):Ints (w.alloc o) B A zs:=
 h.keep fun p hp=>World.cell?_alloc_lt w o p (by omega)
theorem Ints.nil_(w:World)(B:Nat)(A:Option Addr):Ints w B A []:=fun h=>absurd h (by simp)
theorem Ints.take{w:World}{B:Nat}{A:Option Addr}{zs:List Int}(h:Ints w B A zs)(i:Nat):Ints w B A (zs.take i):=fun hn=>by
 have hl:(zs.take i).length<=zs.length:=by simp;omega
 obtain⟨b,off,e,hb,hc⟩:=h (by omega);refine⟨b,off,e,hb,fun k hk=> ?_⟩;have hk2:k<i:=by simp at hk;omega
 rw[hc k (by omega),Zi,Zi,YO,Zc hk2]
theorem Za3(b off j:Nat):(⟨b,off,none⟩:Addr).add j=⟨b,off+j,none⟩:=by unfold Addr.add;by_cases h0:j=0<;>simp[h0]
theorem Ints.cells{w:World}{B:Nat}{ad:Addr}{zs:List Int}(h:Ints w B (some ad) zs):∀(j:Nat) (u:Value),(zs.map (Value.int .i64))[j]?=some u->w.cell? (ad.add j)=some u:=by
 intro j u hu;have hj:j<zs.length:=by
  rcases Zv j zs.length with hlt|hge
  ·exact hlt
  ·rw[List.getElem?_eq_none (by simpa using hge)]at hu;cases hu
 obtain⟨b,off,e,hb,hc⟩:=h (by omega);injection e with e;subst e;rw[Za3,hc j hj];rw[ZO,Zh hj]at hu;rw[Zi,Zh hj];simpa using hu
theorem Zcs(zs:List Int):∀u∈zs.map (Value.int .i64),u.oneCell'=true:=by intro u hu;obtain⟨n,_,rfl⟩:=List.mem_map.mp hu;rfl
theorem Ints.of_own{w:World}{base:Nat}{e:TypeId}{v:Value}{zs:List Int}(h:w.ownsRow base e 1 v zs.length (zs.map (Value.int .i64))):
  ∃A c,v=.slice A zs.length c/\Ints w w.heap.size A zs:=by
 by_cases hn:0<zs.length
 ·obtain ⟨g,cap,hv,_,hlt⟩:=h.form hn
  refine⟨some ⟨g,0,none⟩,cap,hv,fun _=>⟨g,0,rfl,hlt,fun k hk=> ?_⟩⟩;subst hv;have h1:(zs.map (Value.int .i64))[k]?=some (.int .i64 (zs.getD k 0)):=by rw[ZO,Zh hk,Zi,Zh hk];rfl
  have:=h.cells (g:=g) rfl k _ h1
  rwa [Za3]at this
 ·obtain rfl: zs = []:=List.eq_nil_of_length_eq_zero (by omega)
  rcases h.2 with⟨rfl,_⟩|⟨g,cap,cur,rfl,_⟩
  ·exact⟨none,0,rfl,Ints.nil_ _ _ _⟩
  ·exact⟨some ⟨g,0,none⟩,cap,rfl,Ints.nil_ _ _ _⟩
theorem Ints.new2(w:World)(t:TypeId)(a b:Int):Ints (w.alloc (.cells #[.int .i64 a,.int .i64 b] t)) (w.heap.size+1) (some ⟨w.heap.size,0,none⟩) [a,b]:=fun _=>by
 refine⟨_,_,rfl,by simp,fun k hk=> ?_⟩
 match k,hk with
 |0,_=>rw[World.cell?_alloc_at _ _ _ _ rfl];rfl
 |1,_=>rw[World.cell?_alloc_at _ _ _ _ rfl];rfl
theorem Zaa{w:World}(o:Obj):Below w.heap.size w (w.alloc o):=(Below.refl _ _).alloc (Zm _) o
open Go.ChangeShapes Go.WideShapes Go.ChangeAt
theorem own:ownKnob Zg.godebug=none:=by kernel_rfl
theorem laidOut:laidOutB Zg=true:=by kernel_rfl
theorem Zdy{w:World}{b off:Nat}{v:Value}(h:w.cell? ⟨b,off,none⟩=some v):b<w.heap.size:=by
 rcases Zv b w.heap.size with hlt|hge
 ·exact hlt
 ·unfold World.cell? at h
  simp[Array.getElem?_eq_none hge]at h
def ZqF(k:IntKind)(w:World)(a:Option Addr)(len cap:Nat)(zs:List Int):Prop:=
 (a=none/\len=0/\cap=0/\zs= [])\/
 ∃x,a=some x/\len<=cap/\cap<=maxLen/\zs.length=cap/\(∀i,i<zs.length->w.cell? (x.add i)=some (.int k (zs.getD i 0)))/\∀n∈zs,(Lit.int k n).wf=true
theorem ZkH{w:World}{a:Option Addr}{len cap:Nat}{zs:List Int}(h:ZqF .i64 w a len cap zs):
  Ints w w.heap.size a (zs.take len)/\(zs.take len).length=len/\(a=none->cap=0)/\len<=9223372036854775807/\len<=cap:=by
 rcases h with⟨rfl,rfl,rfl,rfl⟩|⟨x,rfl,hl,hm,hz,hc,_⟩
 ·exact⟨Ints.nil_ _ _ _,rfl,fun _=>rfl,by omega,by omega⟩
 ·have hlen: (zs.take len).length = len:=by rw [List.length_take]; omega
  refine⟨fun hn=> ?_,hlen,(fun e=>by cases e),by unfold maxLen at hm;omega,hl⟩;obtain⟨b,off,rfl,hc'⟩:=ints_at hc (by omega);refine⟨b,off,rfl,Zdy (hc' 0 (by omega)),fun k hk=> ?_⟩;have hk2:k<len:=by omega
  rw[hc' k (by omega),Zi,Zi,YO,Zc hk2]
open Go
def DTab(w:World):Prop:=Tab64 w
theorem DTab.via{w w':World}(h:DTab w)(hb:Below w.heap.size w w'):DTab w':=Tab64.via h hb
theorem Zqz:Zg.globalNamed "math/bits.deBruijn64tab" =some 0:=by kernel_rfl
theorem Zlw:(Zg.globals[0]?).map (·.type)=some 242:=by kernel_rfl
theorem ZqG:Zg.cellsOf 242=64:=by kernel_rfl
theorem Zr0:Zg.cellsOf 5=1:=by kernel_rfl
theorem laidMet_tail{P:Program}{W:World}{a:String×DataW Unit}{rest:List (String×DataW Unit)}(h:laidMet P (a::rest) W):laidMet P rest W:=by obtain⟨ps,hv,hnd,hc⟩:=h;obtain⟨_,_,_,_,p,q,_,_,_,_,hr,rfl⟩:=hv;exact⟨q,hr,(List.nodup_append.mp hnd).2.1,fun b off hm=>hc b off (List.mem_append_right _ hm)⟩
theorem tabs_of{W:World}(h:laidMetH Zg [("math/bits.deBruijn32tab",Rows.laid_math_bits_deBruijn32tab),("math/bits.deBruijn64tab",Rows.laid_math_bits_deBruijn64tab)] W):DTab W:=by
 have h1:laidMet Zg [("math/bits.deBruijn32tab",Rows.laid_math_bits_deBruijn32tab),("math/bits.deBruijn64tab",Rows.laid_math_bits_deBruijn64tab)] W:=h;have h2:=laidMet_tail h1;have h3:Lib.TabIs Zg W "math/bits.deBruijn64tab" .u8 (Lib.deBruijn64tab.map Int.ofNat):=
  Lib.tabIs_of_head (rest:=[]) Zqz Zlw underlying242 underlying5 Zr0 ZqG h2
 intro j hj;rw[h3.cell Zqz j (by simpa using hj)];congr 2;rw[Zi,ZO,Zh hj,Zi,Zh hj];rfl
def tab32:List Nat:=[0,1,28,2,29,14,24,3,30,22,20,15,25,17,4,8,31,27,13,23,21,19,16,7,26,12,18,6,11,5,10,9]
def ZqA(l:List Nat):Obj->Obj
 | .cells _ t frozen=> .cells (l.map fun n=>Value.int .u8 (Int.ofNat n)).toArray t frozen
 |o=>o
noncomputable def laidWorld (os:Os):World:=
 {World.holding Zg os ⟨#[],#[],[]⟩with heap:=((World.holding Zg os ⟨#[],#[],[]⟩).heap.modify 1 (ZqA tab32)).modify 0 (ZqA Lib.deBruijn64tab)}
def chk(n:Int):Int:=if n<0 then 10 else if 1099511627775<n then 11 else 0
def ff:List Int->Int
 | []=>0
 |n::l=>if chk n=0 then ff l else chk n
def Zbx:List Int->Int
 | []=>0
 |n::l=>n+Zbx l
theorem Zmx{n:Int}(h:n<0):chk n=10:=by unfold chk;rw[Zc h]
theorem ZkI{n:Int}(h:1099511627775<n):chk n=11:=by unfold chk;rw[Zb (by omega),Zc h]
theorem ZgP{n:Int}(h0:0<=n)(h1:n<=1099511627775):chk n=0:=by unfold chk;rw[Zb (by omega),Zb (by omega)]
theorem Zfw{n:Int}(h:chk n=0):0<=n/\n<=1099511627775:=by
 by_cases h1:n<0
 ·rw[Zmx h1]at h;omega
 ·by_cases h2: 1099511627775 < n
  ·rw[ZkI h2]at h;omega
  ·omega
theorem Zd3(l r:List Int):ff (l++r)=if ff l=0 then ff r else ff l:=by
  induction l with
  |nil=>simp[ff]
  | cons n l ih =>
    by_cases h:chk n=0
    · have e1:ff (n::l)=ff l:=Zc h;have e2:ff (n::l++r)=ff (l++r):=Zc h;rw[e1,e2,ih]
    · have e1:ff (n::l)=chk n:=Zb h;have e2:ff (n::l++r)=chk n:=Zb h;rw[e1,e2,Zb h]
theorem Zh5{zs:List Int}{k:Nat}{z:Int}(h:zs[k]?=some z):zs.take (k+1)=zs.take k++ [z]:=by rw[List.take_add_one,h];rfl
theorem Zjg{zs:List Int}{k:Nat}{z:Int}(h:zs[k]?=some z)(h0:ff (zs.take k)=0):ff (zs.take (k+1))=chk z:=by
 rw[Zh5 h,Zd3,Zc h0];show(if chk z=0 then ff []else chk z)=chk z;by_cases hc:chk z=0
 ·rw[Zc hc,hc];rfl
 ·rw[Zb hc]
theorem ZoE{zs:List Int}{k:Nat}{z:Int}(h:zs[k]?=some z)(h0:ff (zs.take k)=0)(hc:chk z≠0):ff zs=chk z:=by have h1:=Zjg h h0;have h2:=Zd3 (zs.take (k+1)) (zs.drop (k+1));rw[Yy,h1,Zb hc]at h2;exact h2
theorem ZfE{zs:List Int}(k:Nat)(h:ff zs=0):ff (zs.take k)=0:=by
 have h2:=Zd3 (zs.take k) (zs.drop k);rw[Yy,h]at h2;by_cases h0:ff (zs.take k)=0
 ·exact h0
 ·rw[Zb h0]at h2;omega
theorem Zmy{zs:List Int}(h:ff zs=0){k:Nat}{z:Int}(hz:zs[k]?=some z):0<=z/\z<=1099511627775:=by have h1:=Zjg hz (ZfE k h);rw[ZfE (k+1) h]at h1;exact Zfw h1.symm
theorem ZqH(a b:Int):ff [a,b]=if chk a=0 then chk b else chk a:=by
 show(if chk a=0 then(if chk b=0 then 0 else chk b)else chk a)=_;by_cases h:chk b=0
 ·rw[Zc h,h]
 ·rw[Zb h]
theorem Zct{a b:Int}(h:ff [a,b]=0):(0<=a/\a<=1099511627775)/\0<=b/\b<=1099511627775:=by exact⟨Zmy h (k:=0) rfl,Zmy h (k:=1) rfl⟩
theorem Zbh{a b:Int}(a0:0<=a)(a1:a<=1099511627775)(b0:0<=b)(b1:b<=1099511627775):ff [a,b]=0:=by rw[ZqH,ZgP a0 a1,Zc rfl,ZgP b0 b1]
theorem Ze3(l r:List Int):Zbx (l++r)=Zbx l+Zbx r:=by
 induction l with
 |nil=>simp[Zbx]
 |cons n l ih=>simp only[List.cons_append,Zbx];omega
theorem Zlx{zs:List Int}{k:Nat}{z:Int}(h:zs[k]?=some z):Zbx (zs.take (k+1))=Zbx (zs.take k)+z:=by rw[Zh5 h,Ze3];simp[Zbx]
theorem Zmz{zs:List Int}(h:ff zs=0):0<=Zbx zs:=by
  induction zs with
  |nil=>exact Int.le_refl _
  | cons n l ih =>
    unfold ff at h;by_cases hc:chk n=0
    · rw[Zc hc]at h;have:=Zfw hc;have:=ih h;simp only[Zbx];omega
    · rw[Zb hc]at h;exact absurd h hc
theorem ZqI{zs:List Int}(k:Nat)(h:ff zs=0):ff (zs.drop k)=0:=by have h2:=Zd3 (zs.take k) (zs.drop k);rw[Yy,h,ZfE k h,Zc rfl]at h2;exact h2.symm
theorem Zh6{zs:List Int}(k:Nat)(h:ff zs=0):Zbx (zs.take k)<=Zbx zs:=by have h2:=Ze3 (zs.take k) (zs.drop k);rw[Yy]at h2;have:=Zmz (ZqI k h);omega
def addS(l:List Int):Int:=if ff l=0 then(if 1099511627775<Zbx l then 0 else Zbx l)else 0
def addE(l:List Int):Int:=if ff l=0 then(if 1099511627775<Zbx l then 11 else 0)else ff l
def subS(a b:Int):Int:=if ff [a,b]=0 then(if a<b then 0 else a - b)else 0
def subE(a b:Int):Int:=if ff [a,b]=0 then(if a<b then 10 else 0)else ff [a,b]
def mulS(a b:Int):Int:=if ff [a,b]=0 then(if 1099511627775<a * b then 0 else a * b)else 0
def mulE(a b:Int):Int:=if ff [a,b]=0 then(if 1099511627775<a * b then 11 else 0)else ff [a,b]
def Zly(a b:Int):Int:=if ff [a,b]=0 then(if b=0 then 0 else a/b)else 0
def Zhq(a b:Int):Int:=if ff [a,b]=0 then(if b=0 then 12 else 0)else ff [a,b]
def upS(a b:Int):Int:=if ff [a,b]=0 then(if b=0 then 0 else if a/b * b<a then a/b+1 else a/b)else 0
theorem ZoF{l:List Int}(h:ff l≠0):addS l=0:=Zb h
theorem ZoG{l:List Int}(h:ff l≠0):addE l=ff l:=Zb h
theorem ZmA{l:List Int}(h:ff l=0)(h1:1099511627775<Zbx l):addS l=0:=by unfold addS;rw[Zc h,Zc h1]
theorem ZmB{l:List Int}(h:ff l=0)(h1:1099511627775<Zbx l):addE l=11:=by unfold addE;rw[Zc h,Zc h1]
theorem Zh7{l:List Int}(h:ff l=0)(h1:Zbx l<=1099511627775):addS l=Zbx l:=by unfold addS;rw[Zc h,Zb (by omega)]
theorem Zh8{l:List Int}(h:ff l=0)(h1:Zbx l<=1099511627775):addE l=0:=by unfold addE;rw[Zc h,Zb (by omega)]
theorem ZoH{a b:Int}(h:ff [a,b]≠0):subS a b=0:=Zb h
theorem ZoI{a b:Int}(h:ff [a,b]≠0):subE a b=ff [a,b]:=Zb h
theorem ZoJ{a b:Int}(h:ff [a,b]=0)(h1:a<b):subS a b=0:=by unfold subS;rw[Zc h,Zc h1]
theorem ZoK{a b:Int}(h:ff [a,b]=0)(h1:a<b):subE a b=10:=by unfold subE;rw[Zc h,Zc h1]
theorem ZfF{a b:Int}(h:ff [a,b]=0)(h1:b<=a):subS a b=a - b:=by unfold subS;rw[Zc h,Zb (by omega)]
theorem ZmC{a b:Int}(h:ff [a,b]=0)(h1:b<=a):subE a b=0:=by unfold subE;rw[Zc h,Zb (by omega)]
theorem ZoL{a b:Int}(h:ff [a,b]≠0):mulS a b=0:=Zb h
theorem ZoM{a b:Int}(h:ff [a,b]≠0):mulE a b=ff [a,b]:=Zb h
theorem ZmD{a b:Int}(h:ff [a,b]=0)(h1:1099511627775<a * b):mulS a b=0:=by unfold mulS;rw[Zc h,Zc h1]
theorem ZmE{a b:Int}(h:ff [a,b]=0)(h1:1099511627775<a * b):mulE a b=11:=by unfold mulE;rw[Zc h,Zc h1]
theorem ZfG{a b:Int}(h:ff [a,b]=0)(h1:a * b<=1099511627775):mulS a b=a * b:=by unfold mulS;rw[Zc h,Zb (by omega)]
theorem ZfH{a b:Int}(h:ff [a,b]=0)(h1:a * b<=1099511627775):mulE a b=0:=by unfold mulE;rw[Zc h,Zb (by omega)]
theorem Zh9{a b:Int}(h:ff [a,b]≠0):Zly a b=0:=Zb h
theorem ZfI{a b:Int}(h:ff [a,b]≠0):Zhq a b=ff [a,b]:=Zb h
theorem ZgQ{a b:Int}(h:ff [a,b]=0)(h1:b=0):Zly a b=0:=by unfold Zly;rw[Zc h,Zc h1]
theorem ZeE{a b:Int}(h:ff [a,b]=0)(h1:b=0):Zhq a b=12:=by unfold Zhq;rw[Zc h,Zc h1]
theorem ZeF{a b:Int}(h:ff [a,b]=0)(h1:b≠0):Zly a b=a/b:=by unfold Zly;rw[Zc h,Zb h1]
theorem ZcD{a b:Int}(h:ff [a,b]=0)(h1:b≠0):Zhq a b=0:=by unfold Zhq;rw[Zc h,Zb h1]
theorem ZqJ{a b:Int}(h:ff [a,b]≠0):upS a b=0:=Zb h
theorem ZoN{a b:Int}(h:ff [a,b]=0)(h1:b=0):upS a b=0:=by unfold upS;rw[Zc h,Zc h1]
theorem ZkJ{a b:Int}(h:ff [a,b]=0)(h1:b≠0)(h2:a/b * b<a):upS a b=a/b+1:=by unfold upS;rw[Zc h,Zb h1,Zc h2]
theorem ZkK{a b:Int}(h:ff [a,b]=0)(h1:b≠0)(h2:¬a/b * b<a):upS a b=a/b:=by unfold upS;rw[Zc h,Zb h1,Zb h2]
theorem Zia{a b:Int}(hb:0<b):1099511627775/b<a↔1099511627775<a * b:=by
 constructor
 ·intro h
  exact(Int.ediv_lt_iff_lt_mul hb).mp h
 ·intro h
  exact(Int.ediv_lt_iff_lt_mul hb).mpr h
theorem Zdz{a b:Int}(ha:0<=a)(ha1:a<=1099511627775)(hb:0<b):0<=a/b/\a/b<=1099511627775/\0<=a/b * b/\a/b * b<=a/\a - a/b * b<b:=by
 have h1:0<=a/b:=Int.ediv_nonneg ha (by omega);have h2:a/b<=a:=Int.ediv_le_self b ha;have h3:a/b * b<=a:=Int.ediv_mul_le a (by omega);have h4:0<=a/b * b:=Int.mul_nonneg h1 (by omega);have h5:a<(a/b+1) * b:=Int.lt_ediv_add_one_mul_self a hb;have h6:(a/b+1) * b=a/b * b+b:=by rw[Int.add_mul,Int.one_mul]
 omega
structure Shp where
 t:Int
 l:Int
 m:Int
 d:Int
 p:Int
def Shp.val(s:Shp):Value:=.agg #[.int .i64 s.t,.int .i64 s.l,.int .i64 s.m,.int .i64 s.d,.int .i64 s.p]
def isP(n:Int):Bool:=(List.range 13).any fun k=>decide (n=((2^k:Nat):Int))
theorem isP_iff{n:Int}:isP n=true↔ ∃k:Nat,k<13/\n=((2^k:Nat):Int):=by
 unfold isP;rw[List.any_eq_true];constructor
 ·rintro ⟨k,hk,e⟩
  exact⟨k,ZD.mp hk,of_decide_eq_true e⟩
 ·rintro ⟨k,hk,e⟩
  exact⟨k,ZD.mpr hk,Ze e⟩
theorem ZmF{n:Int}(h:isP n=true):1<=n/\n<=4096:=by
 obtain⟨k,hk,rfl⟩:=isP_iff.mp h;have:k=0\/k=1\/k=2\/k=3\/k=4\/k=5\/k=6\/k=7\/k=8\/k=9\/k=10\/k=11\/k=12:=by omega
 rcases this with rfl|rfl|rfl|rfl|rfl|rfl|rfl|rfl|rfl|rfl|rfl|rfl|rfl<;>decide
theorem ZmG{k:Nat}:isP ((2^k:Nat):Int)=decide (((2^k:Nat):Int)<=4096):=by
 by_cases h:k<13
 ·have h1:=isP_iff.mpr ⟨k,h,rfl⟩
  rw[h1,Ze (ZmF h1).2]
 ·have h2: (2: Nat) ^ 13 <= 2 ^ k:=Nat.pow_le_pow_right (by omega) (by omega)
  have h3:¬(((2^k:Nat):Int)<=4096):=by
   have:(2:Nat)^13=8192:=by decide
   omega
  rw[Zd h3];by_cases q:isP ((2^k:Nat):Int)=true
  ·exact absurd (ZmF q).2 h3
  ·simpa using q
theorem Zr1{n:Int}(h:∀k:Nat,k<40->n≠((2^k:Nat):Int)):isP n=false:=by
 by_cases q:isP n=true
 ·obtain ⟨k,hk,e⟩:=isP_iff.mp q
  exact absurd e (h k (by omega))
 ·simpa using q
def Shp.Ok(s:Shp):Prop:=(1<=s.t/\s.t<=4096)/\(1<=s.l/\s.l<=s.t)/\(1<=s.m/\s.m<=s.l)/\isP s.p=true/\1<=s.d/\s.d<=s.p
instance (s:Shp):Decidable s.Ok:=by unfold Shp.Ok;infer_instance
theorem Shp.Ok.le{s:Shp}(h:s.Ok):s.p<=4096:=(ZmF h.2.2.2.1).2
def chkS(s:Shp):Int:=if s.Ok then 0 else 140
theorem Zhr{s:Shp}(h:s.Ok):chkS s=0:=Zc h
theorem Zc6{s:Shp}(h:¬s.Ok):chkS s=140:=Zb h
def ZdX(s:Shp):Int:=upS (s.t - s.l) (s.d - s.l)
def Zc2(s:Shp):Int:=if s.d<=s.l then 0 else if 8<ZdX s then 0 else ZdX s
def Zc3(s:Shp):Int:=if s.d<=s.l then 141 else if 8<ZdX s then 142 else 0
def ZbW(s:Shp):Int:=if¬s.Ok then 0 else if s.d<s.t then Zc2 s else 1
def Zcu(s:Shp):Int:=if¬s.Ok then 140 else if s.d<s.t then Zc3 s else 0
def Zib(s:Shp)(m:Int):Int:=if s.Ok/\1<=m/\m<=8 then(s.t+(m - 1) * s.l)/m else 0
def ZgR(s:Shp):Bool:=decide (s.Ok/\s.d<s.t)
theorem ZfJ{s:Shp}(h:s.Ok)(hd:s.d<s.t)(hl:s.l<s.d):
  2<=ZdX s/\s.t - s.l<=ZdX s * (s.d - s.l)/\(ZdX s - 1) * (s.d - s.l)<s.t - s.l:=by
 obtain⟨⟨t0,t1⟩,⟨l0,l1⟩,⟨m0,m1⟩,-,d0,d1⟩:=h;have hf:ff [s.t - s.l,s.d - s.l]=0:=Zbh (by omega) (by omega) (by omega) (by omega);have hb0:s.d - s.l≠0:=by omega
 obtain⟨a,ha⟩:∃a,a=s.t - s.l:=⟨_,rfl⟩;obtain⟨b,hb⟩:∃b,b=s.d - s.l:=⟨_,rfl⟩;unfold ZdX;rw[<-ha,<-hb]at hf⊢;rw[<-hb]at hb0;have hab:b<a:=by omega
 have hbp:0<b:=by omega
 obtain⟨q0,q1,q2,q3,q4⟩:=Zdz (a:=a) (b:=b) (by omega) (by omega) hbp;by_cases hm:a/b * b<a
 ·rw [ZkJ hf hb0 hm]
  have e1:(a/b+1) * b=a/b * b+b:=by rw[Int.add_mul,Int.one_mul]
  have q5:1<=a/b:=by
   by_cases hq:1<=a/b
   ·exact hq
   ·have: a / b = 0:=by omega
    rw[this]at q4;omega
  refine⟨by omega,by omega,?_⟩;have e2:a/b+1 - 1=a/b:=by omega
  rw[e2];exact hm
 ·rw [ZkK hf hb0 hm]
  have e3:a/b * b=a:=by omega
  have q5:2<=a/b:=by
   by_cases hq:2<=a/b
   ·exact hq
   ·have: a / b = 0 \/ a / b = 1:=by omega
    rcases this with h0|h0<;>rw[h0]at e3<;>omega
  refine⟨q5,by omega,?_⟩;rw[Int.sub_mul,Int.one_mul];omega
theorem ZcE(n:Int)(w:World):Calls Zg 180 #[.int .i64 n] w fun e w'=>e=.returned (.int .i64 (chk n))/\w=w':=by
 by_cases h1:n<0
 ·rw [Zmx h1]
  go_enter func180,ntmps180;go_wp2;go_ret;exact⟨rfl,rfl⟩
 ·by_cases h2: 1099511627775 < n
  ·rw [ZkI h2]
   go_enter func180,ntmps180;go_wp2;go_ret;exact⟨rfl,rfl⟩
  ·rw [ZgP (by omega) (by omega)]
   go_enter func180,ntmps180;go_wp2;go_ret;exact⟨rfl,rfl⟩
theorem ZqK(g:Nat)(n m:Int)(w:World)(h:chk n=0)(hc:w.cell? ⟨g,0,none⟩=some (.int .i64 m))(hf:w.frozen? ⟨g,0,none⟩=false):
  Calls Zg 211 #[.int .i64 n,.pointer (some ⟨g,0,none⟩)] w fun e w'=>e=.returned (.bool false)/\w.setCell ⟨g,0,none⟩ (.int .i64 0)=w':=by
 have H:=Zf h;clear h;go_enter func211,ntmps211;go_wp2_with(go_at_call 180;refine(ZcE _ _).mono ?_;rw[H.out];rintro e w' ⟨rfl,rfl⟩);go_ret;exact⟨rfl,rfl⟩
theorem ZoO(g:Nat)(n m c:Int)(w:World)(h:chk n=c)(h0:c≠0)(hc:w.cell? ⟨g,0,none⟩=some (.int .i64 m))(hf:w.frozen? ⟨g,0,none⟩=false):
  Calls Zg 211 #[.int .i64 n,.pointer (some ⟨g,0,none⟩)] w fun e w'=>e=.returned (.bool true)/\w.setCell ⟨g,0,none⟩ (.int .i64 c)=w':=by
 have H:=Zf h;clear h;have hb:(c !=0)=true:=by simpa using h0
 clear h0;go_enter func211,ntmps211;go_wp2_with(go_at_call 180;refine(ZcE _ _).mono ?_;rw[H.out];rintro e w' ⟨rfl,rfl⟩);go_ret;exact⟨rfl,rfl⟩
def ZqL(zs:List Int)(g:Nat)(w:World)(e:Ending)(w':World):Prop:=
 ∃r:Int,e=.returned (.int .i64 r)/\(ff zs=0/\r= -1\/ff zs≠0/\0<=r)/\w'.heap[g]?=some (.cells #[.int .i64 (ff zs)] 31 (0,0))/\Below g w w'
theorem ZgS(g:Nat)(A:Option Addr)(cap:Nat)(zs:List Int)(w:World)(hl:zs.length<=1099511627775)(hI:Ints w g A zs)
  (hg:w.heap[g]?=some (.cells #[.int .i64 0] 31 (0,0))):
  Calls Zg 89 #[.slice A zs.length cap,.func (.func 211) #[] #[.pointer (some ⟨g,0,none⟩)]] w (ZqL zs g w):=by
 obtain⟨len,hlen⟩:∃len,len=zs.length:=⟨_,rfl⟩;rw[<-hlen]at hl⊢;have HL:=Zf hlen;clear hlen;have HG:=Zf hg;clear hg;have HI:=Zf hI;clear hI;go_enter func89,ntmps89;go_wp2;go_loopw [8] (fun i wr=>∃k:Nat,k<=len/\i=.int .i64 k/\Hid (ff (zs.take k)=0)/\Hid (wr.heap[g]?=some (.cells #[.int .i64 0] 31 (0,0)))/\Below g w wr) (fun i _=>len - (intOf i).toNat)
 case atStart=>exact⟨0,Zu _,rfl,Zf rfl,HG,Below.refl _ _⟩
 case round=>
  obtain⟨k,hk,rfl,hff,hgr,hbel⟩:=hrel;by_cases hlt:k<len
  ·obtain ⟨b,off,z,rfl,hbg,hz,hcell⟩:=HI.out.at_ (by rw [<- HL.out]; exact hlt)
   have hcell':wr.cell? ⟨b,off+k,none⟩=some (.int .i64 z):=(hbel.cell hbg).trans hcell;have HZ:=Zf hz;clear hz hcell;have hcg:wr.cell? ⟨g,0,none⟩=some (.int .i64 0):=cell_of_one hgr.out;have hfg:wr.frozen? ⟨g,0,none⟩=false:=free_of_one hgr.out;by_cases hc:chk z=0
   ·have HC:=Zf hc
    clear hc;go_wp2_with(go_at_call 211;refine(ZqK g z 0 _ HC.out hcg hfg).mono ?_;rintro e w' ⟨rfl,rfl⟩);go_roundw
    case rel=>exact⟨k+1,by omega,by go_num,Zf (by rw[Zjg HZ.out hff.out,HC.out]),Zf (one_setCell hgr.out),hbel.setCell (Zm _) _⟩
    case measure=>simp[intOf];omega
   ·have HC:=Zf hc
    clear hc;go_wp2_with(go_at_call 211;refine(ZoO g z 0 _ _ rfl HC.out hcg hfg).mono ?_;rintro e w' ⟨rfl,rfl⟩);go_ret;have e1:=ZoE HZ.out hff.out HC.out;exact⟨k,rfl,.inr ⟨by rw[e1];exact HC.out,by omega⟩,by rw[e1];exact one_setCell hgr.out,hbel.setCell (Zm _) _⟩
  ·have hkl: k = len:=by omega
   subst hkl;go_wp2;go_ret;have e1:ff zs=0:=by
    have:=hff.out
    rwa [HL.out,Y6]at this
   exact⟨-1,rfl,.inl ⟨e1,rfl⟩,by rw[e1];exact hgr.out,hbel⟩
theorem Zjh(g:Nat)(A:Option Addr)(cap:Nat)(zs:List Int)(w:World)(hl:zs.length<=1099511627775)(hI:Ints w g A zs)
  (hg:w.heap[g]?=some (.cells #[.int .i64 0] 31 (0,0)))(h:ff zs=0):
  Calls Zg 43 #[.slice A zs.length cap,.func (.func 211) #[] #[.pointer (some ⟨g,0,none⟩)]] w fun e w'=>e=.returned (.bool false)/\w'.heap[g]?=some (.cells #[.int .i64 0] 31 (0,0))/\Below g w w':=by
 have C:=fun W:World=>fun h1 h2=>ZgS g A cap zs W hl h1 h2;have C1:=Zf (C w hI hg);have H:=Zf h;clear C hI hg h;go_enter func43,ntmps43;go_wp2_with fail;refine C1.out.mono ?_;rintro e w' ⟨r,rfl,hr,hh,hb⟩;rcases hr with⟨_,rfl⟩|⟨hn,_⟩
 ·rw [H.out] at hh
  have HH:=Zf hh;clear hh;go_wp2;go_ret;exact⟨rfl,HH.out,hb⟩
 ·exact absurd H.out hn
theorem Zic(g:Nat)(A:Option Addr)(cap:Nat)(zs:List Int)(w:World)(hl:zs.length<=1099511627775)(hI:Ints w g A zs)
  (hg:w.heap[g]?=some (.cells #[.int .i64 0] 31 (0,0)))(h:ff zs≠0):
  Calls Zg 43 #[.slice A zs.length cap,.func (.func 211) #[] #[.pointer (some ⟨g,0,none⟩)]] w fun e w'=>e=.returned (.bool true)/\w'.heap[g]?=some (.cells #[.int .i64 (ff zs)] 31 (0,0))/\Below g w w':=by
 have C:=fun W:World=>fun h1 h2=>ZgS g A cap zs W hl h1 h2;have C1:=Zf (C w hI hg);have H:=Zf h;clear C hI hg h;go_enter func43,ntmps43;go_wp2_with fail;refine C1.out.mono ?_;rintro e w' ⟨r,rfl,hr,hh,hb⟩;rcases hr with⟨hn,_⟩|⟨_,hn⟩
 ·exact absurd hn H.out
 ·have HH:=Zf hh
  clear hh;go_wp2;go_ret;exact⟨rfl,HH.out,hb⟩
theorem Zid(A:Option Addr)(cap:Nat)(zs:List Int)(w:World)(hl:zs.length<=1099511627775)(hI:Ints w w.heap.size A zs):
  Calls Zg 166 #[.slice A zs.length cap] w fun e w'=>e=.returned (.int .i64 (ff zs))/\Below w.heap.size w w':=by
 have hmf:∀(fn:Fn) (first cap:Array Value) (w:World),(Instr.makeFunc fn first cap).run Zg w=.ok (.func fn first cap) w:=fun _ _ _ _=>rfl;have hg:(w.alloc (.cells #[.int .i64 0] 31)).heap[w.heap.size]?=some (.cells #[.int .i64 0] 31 (0,0)):=heap_alloc_new w _;have hI1:=hI.alloc (Zm _) (.cells #[.int .i64 0] 31);by_cases h:ff zs=0
 ·have C:=Zf (Zjh w.heap.size A cap zs _ hl hI1 hg h)
  rw[h];clear h hI hg hI1;go_enter func166,ntmps166;go_wp2_with fail;refine C.out.mono ?_;rintro e w' ⟨rfl,hh,hb⟩;clear hh;go_wp2;go_ret;exact⟨rfl,(Zaa _).trans (hb.mono (by simp))⟩
 ·have C:=Zf (Zic w.heap.size A cap zs _ hl hI1 hg h)
  clear h hI hg hI1;go_enter func166,ntmps166;go_wp2_with fail;refine C.out.mono ?_;rintro e w' ⟨rfl,hh,hb⟩;have hc:=cell_of_one hh;clear hh;go_wp2;go_ret;exact⟨rfl,(Zaa _).trans (hb.mono (by simp))⟩
theorem Zb9(a b:Int)(w:World):Calls Zg 166 #[.slice (some ⟨w.heap.size,0,none⟩) 2 2] (w.alloc (.cells #[.int .i64 a,.int .i64 b] 3)) fun e w'=>
  e=.returned (.int .i64 (ff [a,b]))/\Below w.heap.size w w':=
 (Zid (some ⟨w.heap.size,0,none⟩) 2 [a,b] (w.alloc (.cells #[.int .i64 a,.int .i64 b] 3)) (by simp) ((Ints.new2 w _ a b).more (by simp))).mono
  fun _ _ ⟨he,hb⟩=>⟨he,(Zaa _).trans (hb.mono (by simp))⟩
theorem ZmH(a b:Int)(w:World):Calls Zg 290 #[.int .i64 a,.int .i64 b] w fun e w'=>
  e=.returned (.tuple #[.int .i64 (subS a b),.int .i64 (subE a b)])/\Below w.heap.size w w':=by
 by_cases h:ff [a,b]=0
 ·obtain ⟨⟨a0,a1⟩,b0,b1⟩:=Zct h
  have C:=Zf (Zb9 a b w);rw[h]at C;by_cases h1:a<b
  ·rw [ZoJ h h1,ZoK h h1]
   clear h;go_enter func290,ntmps290;go_wp2_with fail;refine C.out.mono ?_;rintro e w' ⟨rfl,hb⟩;go_wp2;go_ret2;exact⟨rfl,hb⟩
  ·have h2: b <= a:=by omega
   rw[ZfF h h2,ZmC h h2];clear h h1;go_enter func290,ntmps290;go_wp2_with fail;refine C.out.mono ?_;rintro e w' ⟨rfl,hb⟩;go_wp2;go_ret2;exact⟨rfl,hb⟩
 ·rw [ZoH h,ZoI h]
  have C:=Zf (Zb9 a b w);obtain⟨c,hc⟩:∃c,c=ff [a,b]:=⟨_,rfl⟩;rw[<-hc]at C h⊢;have hb:(c !=0)=true:=by simpa using h
  clear h hc;go_enter func290,ntmps290;go_wp2_with fail;refine C.out.mono ?_;rintro e w' ⟨rfl,hbel⟩;go_wp2;go_ret2;exact⟨rfl,hbel⟩
theorem ZqM(a b:Int)(w:World):Calls Zg 121 #[.int .i64 a,.int .i64 b] w fun e w'=>
  e=.returned (.tuple #[.int .i64 (mulS a b),.int .i64 (mulE a b)])/\Below w.heap.size w w':=by
 by_cases h:ff [a,b]=0
 ·obtain ⟨⟨a0,a1⟩,b0,b1⟩:=Zct h
  have C:=Zf (Zb9 a b w);rw[h]at C;by_cases hz:b=0
  ·have hab: a * b = 0:=by rw [hz,Int.mul_zero]
   rw[ZfG h (by omega),ZfH h (by omega),hab];subst hz;clear h hab;go_enter func121,ntmps121;go_wp2_with fail;refine C.out.mono ?_;rintro e w' ⟨rfl,hb⟩;go_wp2;go_ret2;exact⟨by simp,hb⟩
  ·have hbp: 1 <= b:=by omega
   have hbz:(b !=0)=true:=by simpa using hz
   have hq:=(Zdz (a:=1099511627775) (b:=b) (by omega) (by omega) (by omega));obtain⟨q0,q1,_⟩:=hq;by_cases h1:1099511627775<a * b
   ·rw [ZmD h h1,ZmE h h1]
    have hg:=(Zia (a:=a) (b:=b) (by omega)).mpr h1;clear h h1 hz;go_enter func121,ntmps121;go_wp2_with fail;refine C.out.mono ?_;rintro e w' ⟨rfl,hb⟩;go_wp2;go_ret2;exact⟨rfl,hb⟩
   ·have h2: a * b <= 1099511627775:=by omega
    have h3:0<=a * b:=Int.mul_nonneg a0 b0;rw[ZfG h h2,ZfH h h2];have hg:¬1099511627775/b<a:=fun hh=>h1 ((Zia (a:=a) (b:=b) (by omega)).mp hh);clear h h1 hz;go_enter func121,ntmps121;go_wp2_with fail;refine C.out.mono ?_;rintro e w' ⟨rfl,hb⟩;go_wp2;go_ret2;exact⟨rfl,hb⟩
 ·rw [ZoL h,ZoM h]
  have C:=Zf (Zb9 a b w);obtain⟨c,hc⟩:∃c,c=ff [a,b]:=⟨_,rfl⟩;rw[<-hc]at C h⊢;have hb:(c !=0)=true:=by simpa using h
  clear h hc;go_enter func121,ntmps121;go_wp2_with fail;refine C.out.mono ?_;rintro e w' ⟨rfl,hbel⟩;go_wp2;go_ret2;exact⟨rfl,hbel⟩
theorem Zie(a b:Int)(w:World):Calls Zg 123 #[.int .i64 a,.int .i64 b] w fun e w'=>
  e=.returned (.tuple #[.int .i64 (Zly a b),.int .i64 (Zhq a b)])/\Below w.heap.size w w':=by
 by_cases h:ff [a,b]=0
 ·obtain ⟨⟨a0,a1⟩,b0,b1⟩:=Zct h
  have C:=Zf (Zb9 a b w);rw[h]at C;by_cases hz:b=0
  ·rw [ZgQ h hz,ZeE h hz]
   subst hz;clear h;go_enter func123,ntmps123;go_wp2_with fail;refine C.out.mono ?_;rintro e w' ⟨rfl,hb⟩;go_wp2;go_ret2;exact⟨rfl,hb⟩
  ·have hbp: 1 <= b:=by omega
   have hbz:(b==0)=false:=by simpa using hz
   rw[ZeF h hz,ZcD h hz];obtain⟨q0,q1,_⟩:=Zdz a0 a1 (b:=b) (by omega);clear h hz;go_enter func123,ntmps123;go_wp2_with fail;refine C.out.mono ?_;rintro e w' ⟨rfl,hb⟩;go_wp2;go_ret2;exact⟨rfl,hb⟩
 ·rw [Zh9 h,ZfI h]
  have C:=Zf (Zb9 a b w);obtain⟨c,hc⟩:∃c,c=ff [a,b]:=⟨_,rfl⟩;rw[<-hc]at C h⊢;have hb:(c !=0)=true:=by simpa using h
  clear h hc;go_enter func123,ntmps123;go_wp2_with fail;refine C.out.mono ?_;rintro e w' ⟨rfl,hbel⟩;go_wp2;go_ret2;exact⟨rfl,hbel⟩
theorem Zr2(a b:Int)(w:World):Calls Zg 291 #[.int .i64 a,.int .i64 b] w fun e w'=>
  e=.returned (.tuple #[.int .i64 (upS a b),.int .i64 (Zhq a b)])/\Below w.heap.size w w':=by
 have C:=Zf (Zie a b w);by_cases h:ff [a,b]=0
 ·obtain ⟨⟨a0,a1⟩,b0,b1⟩:=Zct h
  by_cases hz:b=0
  ·rw [ZoN h hz,ZeE h hz]
   rw[ZgQ h hz,ZeE h hz]at C;clear h hz;go_enter func291,ntmps291;go_wp2_with fail;refine C.out.mono ?_;rintro e w' ⟨rfl,hb⟩;go_wp2;go_ret2;exact⟨rfl,hb⟩
  ·have hd:=Zdz a0 a1 (b:=b) (by omega)
   rw[ZeF h hz,ZcD h hz]at C;by_cases h1:a/b * b<a
   ·rw [ZkJ h hz h1,ZcD h hz]
    obtain⟨q,hq⟩:∃q,q=a/b:=⟨_,rfl⟩;rw[<-hq]at C hd h1⊢;obtain⟨q0,q1,q2,q3,q4⟩:=hd;clear h hz hq;go_enter func291,ntmps291;go_wp2_with fail;refine C.out.mono ?_;rintro e w' ⟨rfl,hb⟩;go_wp2;go_ret2;exact⟨rfl,hb⟩
   ·rw [ZkK h hz h1,ZcD h hz]
    obtain⟨q,hq⟩:∃q,q=a/b:=⟨_,rfl⟩;rw[<-hq]at C hd h1⊢;obtain⟨q0,q1,q2,q3,q4⟩:=hd;clear h hz hq;go_enter func291,ntmps291;go_wp2_with fail;refine C.out.mono ?_;rintro e w' ⟨rfl,hb⟩;go_wp2;go_ret2;exact⟨rfl,hb⟩
 ·rw [ZqJ h,ZfI h]
  rw[Zh9 h,ZfI h]at C;obtain⟨c,hc⟩:∃c,c=ff [a,b]:=⟨_,rfl⟩;rw[<-hc]at C h⊢;have hb:(c==0)=false:=by simpa using h
  clear h hc;go_enter func291,ntmps291;go_wp2_with fail;refine C.out.mono ?_;rintro e w' ⟨rfl,hbel⟩;go_wp2;go_ret2;exact⟨rfl,hbel⟩
theorem ZoP(A:Option Addr)(cap:Nat)(zs:List Int)(w:World)(hl:zs.length<=1099511627775)(hI:Ints w w.heap.size A zs):
  Calls Zg 122 #[.slice A zs.length cap] w fun e w'=>e=.returned (.tuple #[.int .i64 (addS zs),.int .i64 (addE zs)])/\Below w.heap.size w w':=by
 have C:=Zf (Zid A cap zs w hl hI);obtain⟨len,hlen⟩:∃len,len=zs.length:=⟨_,rfl⟩;rw[<-hlen]at hl⊢;by_cases h:ff zs=0
 ·rw [h,<- hlen] at C
  have HL:=Zf hlen;have HI:=Zf hI;have HF:=Zf h;clear h hI hlen;go_enter func122,ntmps122;go_wp2_with fail;refine C.out.mono ?_;rintro e w1 ⟨rfl,hb⟩;have HI1:=Zf (HI.out.below hb);clear C HI;go_wp2_with fail;go_loop [5,15] (fun s i=>∃k:Nat,k<=len/\i=.int .i64 k/\0<=Zbx (zs.take k)/\Zbx (zs.take k)<=1099511627775/\s=.int .i64 (Zbx (zs.take k))) (fun _ i=>len - (intOf i).toNat)
  case atStart=>exact⟨0,Zu _,rfl,by simp[Zbx],by simp[Zbx],rfl⟩
  case round=>
   obtain⟨k,hk,rfl,ht0,ht1,rfl⟩:=hrel;by_cases hlt:k<len
   ·obtain ⟨b,off,z,rfl,hbg,hz,hcell⟩:=HI1.out.at_ (by rw [<- HL.out]; exact hlt)
    obtain⟨z0,z1⟩:=Zmy HF.out hz;have HS:=Zf (Zlx hz);clear hz;obtain⟨t,ht⟩:∃t,t=Zbx (zs.take k):=⟨_,rfl⟩;rw[<-ht]at ht0 ht1 HS⊢;have HT:=Zf ht;clear ht;by_cases hover:1099511627775<t+z
    ·go_wp2
     go_ret2;have h9:1099511627775<Zbx zs:=by have h8:=Zh6 (k+1) HF.out;rw[HS.out]at h8;omega
     exact⟨by rw[ZmA HF.out h9,ZmB HF.out h9];rfl,hb⟩
    ·go_wp2
     go_round
     case rel=>exact⟨k+1,by omega,by go_num,by rw[HS.out];omega,by rw[HS.out];omega,by rw[HS.out]⟩
     case measure=>simp[intOf];omega
   ·have hkl: k = len:=by omega
    subst hkl;have e1:zs.take k=zs:=by rw[HL.out,Y6]
    rw[e1]at ht1⊢;have HT:=Zf ht1;clear e1 ht0 ht1;obtain⟨t,ht⟩:∃t,t=Zbx zs:=⟨_,rfl⟩;rw[<-ht];have HT2:=Zf ht;clear ht;go_wp2;go_ret2;exact⟨by rw[Zh7 HF.out HT.out,Zh8 HF.out HT.out,<-HT2.out];rfl,hb⟩
 ·rw [ZoF h,ZoG h]
  rw[<-hlen]at C;obtain⟨c,hc⟩:∃c,c=ff zs:=⟨_,rfl⟩;rw[<-hc]at C h⊢;have hb:(c !=0)=true:=by simpa using h
  clear h hc hI hlen;go_enter func122,ntmps122;go_wp2_with fail;refine C.out.mono ?_;rintro e w' ⟨rfl,hbel⟩;go_wp2;go_ret2;exact⟨rfl,hbel⟩
end Go.Proofs.YtfahabphncmbfaaGreatDoor
