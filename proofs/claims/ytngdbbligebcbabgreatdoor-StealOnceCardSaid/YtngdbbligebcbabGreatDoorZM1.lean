import Derived.Test.YtngdbbligebcbabGreatDoorChecked
import Derived.WalkKit
import Derived.Handy
import Derived.KernelRfl
import Derived.Below
import Derived.Laws.Bits64b
import Derived.Lib.TrailingZeros
import Derived.Lib.Hide
import Derived.Laws.AppendOwnNone
import Derived.Deep.AppendLies
import Derived.Maps.AppendAt
import Derived.Test.YtngdbbligebcbabGreatDoorRows
import Derived.ProofKit
import Derived.OpenShut
import Derived.ShutString
import Derived.ChangeOld
import Derived.ChangeMaps5
import Derived.Test.YtngdbbligebcbabGreatDoorCards
import Derived.Test.YtngdbbligebcbabGreatDoorTie
import Derived.Deep.DeepHandedRow
import Derived.Lib.LaidTab
import Derived.Stop.LaidErr
set_option linter.unusedVariables false
set_option maxHeartbeats 1000000
namespace Go.Proofs.YtngdbbligebcbabGreatDoor
open Go.RowKit
def Tab64(w:World):Prop:=∀ j,j<Lib.deBruijn64tab.length->w.cell? ⟨0,j,none⟩=some (.int .u8 (Lib.deBruijn64tab.getD j 0))
theorem Tab64.below{w w':World}{B:Nat}(h:Tab64 w)(hb:Below B w w')(hB:0<B):Tab64 w':=fun j hj=>(hb.cell (p:=⟨0,j,none⟩) hB).trans (h j hj)
theorem Tab64.lt{w:World}(h:Tab64 w):0<w.heap.size:=World.block_lt_of_cell? _ _ (h 0 (by decide))
theorem Tab64.via{w w':World}(h:Tab64 w)(hb:Below w.heap.size w w'):Tab64 w':=h.below hb h.lt
theorem tz64_core(x k idx:Nat)(w:World)(hx0:((x:Int)==0)=false)
  (key:IntKind.u64.wrap (bits BinOp.and IntKind.u64 (x:Int) (IntKind.u64.wrap (-(x:Int))) * 285870213051353865)/288230376151711744=(idx:Int))
  (hi:idx<64) (hk:k<64) (hcell:w.cell? ⟨0,idx,none⟩=some (.int .u8 k)):
  Calls Tryz.prog 130 #[.int .u64 x] w fun e w'=>e= .returned (.int .i64 k)/\w=w':=by
 go_enter Tryz.func130,Tryz.ntmps130
 go_wp2_with(simp only[key])
 go_ret;exact⟨rfl,rfl⟩
theorem tz64_at(x a:Nat)(hx:x<18446744073709551616)(hx0:x≠0)(hlow:x &&& (18446744073709551616 - x)=a):
  IntKind.u64.wrap (bits BinOp.and IntKind.u64 (x:Int) (IntKind.u64.wrap (-(x:Int))) * 285870213051353865)/288230376151711744=((a * 285870213051353865%18446744073709551616/288230376151711744:Nat):Int):=by
 have e1:IntKind.u64.wrap (-(x:Int))=((18446744073709551616 - x:Nat):Int):=by rw[IntKind.wrap_u64];omega
 rw[e1,bits_and_u64_nat x _ hx (by omega),hlow,IntKind.wrap_u64]
 omega
theorem tz64_any(x:Nat)(w:World)(hx:x<18446744073709551616)(hx0:x≠0)(hT:Tab64 w):
  Calls Tryz.prog 130 #[.int .u64 x] w fun e w'=>e= .returned (.int .i64 (Lib.ctz 64 x))/\w=w':=by
 obtain⟨hlow,hk⟩:=Lib.lowest_bit 64 x hx0 hx;obtain⟨hi,htab⟩:=Lib.deBruijn64_at _ hk;have hcell:=hT _ hi;rw[htab]at hcell;exact tz64_core x _ _ w (by simp;omega) (tz64_at x _ hx hx0 hlow) hi hk hcell
def Ints(w:World)(B:Nat)(A:Option Addr)(zs:List Int):Prop:=
 0<zs.length-> ∃b off,A=some ⟨b,off,none⟩/\b<B/\ ∀k,k<zs.length->w.cell? ⟨b,off+k,none⟩=some (.int .i64 (zs.getD k 0))
theorem Ints.at_{w:World}{B:Nat}{A:Option Addr}{zs:List Int}{k:Nat}(h:Ints w B A zs)(hk:k<zs.length):
  ∃b off z,A=some ⟨b,off,none⟩/\b<B/\zs[k]? =some z/\w.cell? ⟨b,off+k,none⟩=some (.int .i64 z):=by
 obtain⟨b,off,e,hb,hc⟩:=h (by omega)
 exact⟨b,off,zs[k],e,hb,List.getElem?_eq_getElem hk,by rw[hc k hk,List.getD_eq_getElem?_getD,List.getElem?_eq_getElem hk];rfl⟩
theorem Ints.keep{w w':World}{B:Nat}{A:Option Addr}{zs:List Int}(h:Ints w B A zs)(hk: ∀p:Addr,p.block<B->w'.cell? p=w.cell? p):Ints w' B A zs:=fun hn=>by
 obtain⟨b,off,e,hb,hc⟩:=h hn;exact⟨b,off,e,hb,fun k hk'=>(hk _ hb).trans (hc k hk')⟩
theorem Ints.more{w:World}{B B':Nat}{A:Option Addr}{zs:List Int}(h:Ints w B A zs)(hB:B<=B'):Ints w B' A zs:=fun hn=>by
 obtain⟨b,off,e,hb,hc⟩:=h hn;exact⟨b,off,e,by omega,hc⟩
theorem Ints.below{w w':World}{B:Nat}{A:Option Addr}{zs:List Int}(h:Ints w B A zs)(hb:Below B w w'):Ints w' B A zs:=h.keep fun _ hp=>hb.cell hp
theorem Ints.alloc{w:World}{B:Nat}{A:Option Addr}{zs:List Int}(h:Ints w B A zs)(hB:B<=w.heap.size)(o:Obj):Ints (w.alloc o) B A zs:=
 h.keep fun p hp=>World.cell?_alloc_lt w o p (by omega)
theorem Ints.nil_(w:World)(B:Nat)(A:Option Addr):Ints w B A []:=fun h=>absurd h (by simp)
theorem Ints.take{w:World}{B:Nat}{A:Option Addr}{zs:List Int}(h:Ints w B A zs)(i:Nat):Ints w B A (zs.take i):=fun hn=>by
 have hl:(zs.take i).length<=zs.length:=by simp;omega
 obtain⟨b,off,e,hb,hc⟩:=h (by omega)
 refine⟨b,off,e,hb,fun k hk=> ?_⟩
 have hk2:k<i:=by simp at hk;omega
 rw[hc k (by omega),List.getD_eq_getElem?_getD,List.getD_eq_getElem?_getD,List.getElem?_take,if_pos hk2]
theorem addr_add(b off j:Nat):(⟨b,off,none⟩:Addr).add j=⟨b,off+j,none⟩:=by unfold Addr.add;by_cases h0:j=0<;>simp[h0]
theorem Ints.cells{w:World}{B:Nat}{ad:Addr}{zs:List Int}(h:Ints w B (some ad) zs): ∀(j:Nat) (u:Value),(zs.map (Value.int .i64))[j]? =some u->w.cell? (ad.add j)=some u:=by
 intro j u hu;have hj:j<zs.length:=by
  rcases Nat.lt_or_ge j zs.length with hlt|hge
  ·exact hlt
  ·rw[List.getElem?_eq_none (by simpa using hge)]at hu;cases hu
 obtain⟨b,off,e,hb,hc⟩:=h (by omega)
 injection e with e;subst e;rw[addr_add,hc j hj];rw[List.getElem?_map,List.getElem?_eq_getElem hj]at hu
 rw[List.getD_eq_getElem?_getD,List.getElem?_eq_getElem hj]
 simpa using hu
theorem oneCell_ints(zs:List Int): ∀u∈zs.map (Value.int .i64),u.oneCell'=true:=by
 intro u hu;obtain⟨n,_,rfl⟩:=List.mem_map.mp hu;rfl
theorem Ints.of_own{w:World}{base:Nat}{e:TypeId}{v:Value}{zs:List Int}(h:w.ownsRow base e 1 v zs.length (zs.map (Value.int .i64))):
  ∃A c,v= .slice A zs.length c/\Ints w w.heap.size A zs:=by
 by_cases hn:0<zs.length
 ·obtain ⟨g,cap,hv,_,hlt⟩:=h.form hn
  refine⟨some ⟨g,0,none⟩,cap,hv,fun _=>⟨g,0,rfl,hlt,fun k hk=> ?_⟩⟩
  subst hv;have h1:(zs.map (Value.int .i64))[k]? =some (.int .i64 (zs.getD k 0)):=by
   rw[List.getElem?_map,List.getElem?_eq_getElem hk,List.getD_eq_getElem?_getD,List.getElem?_eq_getElem hk];rfl
  have:=h.cells (g:=g) rfl k _ h1
  rwa [addr_add]at this
 ·obtain rfl: zs = []:=List.eq_nil_of_length_eq_zero (by omega)
  rcases h.2 with⟨rfl,_⟩|⟨g,cap,cur,rfl,_⟩
  ·exact⟨none,0,rfl,Ints.nil_ _ _ _⟩
  ·exact⟨some ⟨g,0,none⟩,cap,rfl,Ints.nil_ _ _ _⟩
theorem below_alloc{w:World}(o:Obj):Below w.heap.size w (w.alloc o):=(Below.refl _ _).alloc (Nat.le_refl _) o
end Go.Proofs.YtngdbbligebcbabGreatDoor
namespace Go.Proofs.YtngdbbligebcbabGreatDoor
open Go.ChangeShapes Go.WideShapes Go.ChangeAt Go.RowKit
theorem own:ownKnob Tryz.prog.godebug=none:=by kernel_rfl
theorem laidOut:laidOutB Tryz.prog=true:=by kernel_rfl
theorem cell_below{w:World}{b off:Nat}{v:Value}(h:w.cell? ⟨b,off,none⟩=some v):b<w.heap.size:=by
 rcases Nat.lt_or_ge b w.heap.size with hlt|hge
 ·exact hlt
 ·unfold World.cell? at h
  simp[Array.getElem?_eq_none hge]at h
def IsRow(k:IntKind)(w:World)(a:Option Addr)(len cap:Nat)(zs:List Int):Prop:=
 (a=none/\len=0/\cap=0/\zs= [])\/
 ∃x,a=some x/\len<=cap/\cap<=maxLen/\zs.length=cap/\(∀i,i<zs.length->w.cell? (x.add i)=some (.int k (zs.getD i 0)))/\ ∀n∈zs,(Lit.int k n).wf=true
theorem row_ints{w:World}{a:Option Addr}{len cap:Nat}{zs:List Int}(h:IsRow .i64 w a len cap zs):
  Ints w w.heap.size a (zs.take len)/\(zs.take len).length=len/\(a=none->cap=0)/\len<=9223372036854775807/\len<=cap:=by
 rcases h with⟨rfl,rfl,rfl,rfl⟩|⟨x,rfl,hl,hm,hz,hc,_⟩
 ·exact⟨Ints.nil_ _ _ _,rfl,fun _=>rfl,by omega,by omega⟩
 ·have hlen: (zs.take len).length = len:=by rw [List.length_take]; omega
  refine⟨fun hn=> ?_,hlen,(fun e=>by cases e),by unfold maxLen at hm;omega,hl⟩
  obtain⟨b,off,rfl,hc'⟩:=ints_at hc (by omega)
  refine⟨b,off,rfl,cell_below (hc' 0 (by omega)),fun k hk=> ?_⟩
  have hk2:k<len:=by omega
  rw[hc' k (by omega),List.getD_eq_getElem?_getD,List.getD_eq_getElem?_getD,List.getElem?_take,if_pos hk2]
end Go.Proofs.YtngdbbligebcbabGreatDoor
namespace Go.Proofs.YtngdbbligebcbabGreatDoor
open Go Go.RowKit
def DTab(w:World):Prop:=Tab64 w
theorem DTab.via{w w':World}(h:DTab w)(hb:Below w.heap.size w w'):DTab w':=Tab64.via h hb
end Go.Proofs.YtngdbbligebcbabGreatDoor
namespace Go.Proofs.YtngdbbligebcbabGreatDoor
open Go.ChangeShapes Go.WideShapes Go.ChangeAt Go.RowKit
theorem gTab64:Tryz.prog.globalNamed "math/bits.deBruijn64tab" =some 0:=by kernel_rfl
theorem gTab64Type:(Tryz.prog.globals[0]?).map (·.type)=some 182:=by kernel_rfl
theorem cells64:Tryz.prog.cellsOf 182=64:=by kernel_rfl
theorem cells8:Tryz.prog.cellsOf 5=1:=by kernel_rfl
theorem laidMet_tail{P:Program}{W:World}{a:String×DataW Unit}{rest:List (String×DataW Unit)}(h:laidMet P (a::rest) W):laidMet P rest W:=by
 obtain⟨ps,hv,hnd,hc⟩:=h;obtain⟨_,_,_,_,p,q,_,_,_,_,hr,rfl⟩:=hv;exact⟨q,hr,(List.nodup_append.mp hnd).2.1,fun b off hm=>hc b off (List.mem_append_right _ hm)⟩
theorem tabs_of{W:World}(h:laidMetH Tryz.prog [("math/bits.deBruijn32tab",Rows.laid_math_bits_deBruijn32tab),("math/bits.deBruijn64tab",Rows.laid_math_bits_deBruijn64tab)] W):DTab W:=by
 have h1:laidMet Tryz.prog [("math/bits.deBruijn32tab",Rows.laid_math_bits_deBruijn32tab),("math/bits.deBruijn64tab",Rows.laid_math_bits_deBruijn64tab)] W:=h
 have h2:=laidMet_tail h1;have h3:Lib.TabIs Tryz.prog W "math/bits.deBruijn64tab" .u8 (Lib.deBruijn64tab.map Int.ofNat):=
  Lib.tabIs_of_head (rest:=[]) gTab64 gTab64Type Tryz.underlying182 Tryz.underlying5 cells8 cells64 h2
 intro j hj;rw[h3.cell gTab64 j (by simpa using hj)]
 congr 2
 rw[List.getD_eq_getElem?_getD,List.getElem?_map,List.getElem?_eq_getElem hj,List.getD_eq_getElem?_getD,List.getElem?_eq_getElem hj]
 rfl
theorem wf64{a:Int}(h:(Lit.int .i64 a).wf=true): -9223372036854775808<=a/\a<=9223372036854775807:=by
 have e1:IntKind.i64.min= -9223372036854775808:=by decide
 have e2:IntKind.i64.max=9223372036854775807:=by decide
 simp[Lit.wf,e1,e2]at h;omega
def tab32:List Nat:=[0,1,28,2,29,14,24,3,30,22,20,15,25,17,4,8,31,27,13,23,21,19,16,7,26,12,18,6,11,5,10,9]
def setTab(l:List Nat):Obj->Obj
 | .cells _ t frozen=> .cells (l.map fun n=>Value.int .u8 (Int.ofNat n)).toArray t frozen
 |o=>o
noncomputable def laidWorld (os:Os):World:=
 {World.holding Tryz.prog os ⟨#[],#[],[]⟩with heap:=((World.holding Tryz.prog os ⟨#[],#[],[]⟩).heap.modify 1 (setTab tab32)).modify 0 (setTab Lib.deBruijn64tab)}
end Go.Proofs.YtngdbbligebcbabGreatDoor
namespace Go.Proofs.YtngdbbligebcbabGreatDoor
def ed(E:List (Int×Int))(a b:Nat):Prop:=((a:Int),(b:Int))∈E
instance (E:List (Int×Int)) (a b:Nat):Decidable (ed E a b):=by unfold ed;infer_instance
inductive Way (E:List (Int×Int)):Nat->Nat->Prop
 |one {a b:Nat}:ed E a b->Way E a b
 |more {a b c:Nat}:Way E a b->ed E b c->Way E a c
def Acyc(E:List (Int×Int)):Prop:=∀ a,¬Way E a a
def Fits(n:Nat)(E:List (Int×Int)):Prop:=∀ e∈E,0<=e.1/\e.1<n/\0<=e.2/\e.2<n
def Up(E:List (Int×Int)):List Nat->Prop
 | []=>False
 | [_]=>True
 |b::a::r=>ed E a b/\Up E (a::r)
variable {E: List (Int × Int)}
theorem Way.trans{a b c:Nat}(h:Way E a b)(k:Way E b c):Way E a c:=by
 induction k with
 |one e=>exact .more h e
 |more _ e ih=>exact .more ih e
theorem Way.first{a b:Nat}(h:Way E a b):ed E a b\/ ∃c,ed E a c/\Way E c b:=by
  induction h with
  |one e=>exact .inl e
  | more _ e ih =>
    rcases ih with h|⟨c,h1,h2⟩
    · exact .inr ⟨_,h, .one e⟩
    · exact .inr ⟨c,h1, .more h2 e⟩
theorem Way.last{a b:Nat}(h:Way E a b): ∃c,ed E c b/\(c=a\/Way E a c):=by
 cases h with
 |one e=>exact⟨a,e,.inl rfl⟩
 |more h e=>exact⟨_,e,.inr h⟩
theorem Way.mono{E':List (Int×Int)}{a b:Nat}(h:Way E a b)(hE: ∀a b,ed E a b->ed E' a b):Way E' a b:=by
 induction h with
 |one e=>exact .one (hE _ _ e)
 |more _ e ih=>exact .more ih (hE _ _ e)
theorem ed_lt{n a b:Nat}(hF:Fits n E)(h:ed E a b):a<n/\b<n:=by
 have:=hF _ h;simp at this;omega
theorem Way.lt{n a b:Nat}(hF:Fits n E)(h:Way E a b):a<n/\b<n:=by
 induction h with
 |one e=>exact ed_lt hF e
 |more _ e ih=>exact⟨ih.1,(ed_lt hF e).2⟩
theorem Up.tail{b:Nat}{r:List Nat}(h:Up E (b::r))(hr:r≠ []):Up E r:=by
 cases r with
 |nil=>exact absurd rfl hr
 |cons a r=>exact h.2
theorem Up.way: ∀{r:List Nat} {b:Nat},Up E (b::r)-> ∀a∈r,Way E a b
  | [],_,_,a,ha=>by simp at ha
  | c :: r, b, h, a, ha => by
    rcases List.mem_cons.mp ha with rfl|ha
    · exact .one h.1
    · exact .more (Up.way h.2 a ha) h.1
theorem Up.nodup(hA:Acyc E): ∀{p:List Nat},Up E p->p.Nodup
  | [],h=>h.elim
  | [b],_=>by simp
  | b :: a :: r, h => by
    rw[List.nodup_cons];refine⟨fun hm=>hA b (Up.way h b hm),Up.nodup hA h.2⟩
theorem Up.lt{n:Nat}(hF:Fits n E): ∀{p:List Nat},Up E p->(∀b,p= [b]->b<n)-> ∀x∈p,x<n
  | [],h,_,_,_=>h.elim
  | [b], _, h1, x, hx => by
    obtain rfl:x=b:=by simpa using hx
    exact h1 x rfl
  | b :: a :: r, h, _, x, hx => by
    have hab:=ed_lt hF h.1;rcases List.mem_cons.mp hx with rfl|hx
    · exact hab.2
    · exact Up.lt hF h.2 (fun c hc=>by injection hc with hc _;omega) x hx
theorem Way.up{a b:Nat}(h:Way E a b): ∃r,Up E (b::r)/\r.getLast? =some a:=by
  induction h with
  |one e=>exact⟨[_],⟨e,trivial⟩,rfl⟩
  | more _ e ih =>
    obtain⟨r,hr,hl⟩:=ih;refine⟨_::r,⟨e,hr⟩,?_⟩
    cases r with
    |nil=>simp at hl
    |cons x r=>rw[List.getLast?_cons_cons];exact hl
theorem sum_below(w:Nat->Nat): ∀(n:Nat) (l:List Nat),l.Nodup->(∀x∈l,x<n)->(l.map w).sum<=((List.range n).map w).sum
  | 0, l, _, h => by
    cases l with
    |nil=>exact Nat.le_refl _
    |cons x r=>exact absurd (h x (by simp)) (by omega)
  | n + 1, l, hn, h => by
    rw[List.range_succ,List.map_append,List.sum_append]
    by_cases hm:n∈l
    · have hp:=List.perm_cons_erase hm;have hs:=(hp.map w).sum_nat;rw[hs];have ih:=sum_below w n (l.erase n) (hn.erase n) (fun x hx=>by
        have h1:=(hn.mem_erase_iff).mp hx;have:=h x h1.2;omega)
      simp only[List.map_cons,List.sum_cons,List.map_nil,List.sum_nil];omega
    · have ih:=sum_below w n l hn (fun x hx=>by
        have:=h x hx;have:x≠n:=fun e=>hm (e▸hx)
        omega)
      simp only[List.map_cons,List.sum_cons,List.map_nil,List.sum_nil];omega
theorem length_below(n:Nat)(l:List Nat)(hn:l.Nodup)(h: ∀x∈l,x<n):l.length<=n:=by
 have h1:=sum_below (fun _=>1) n l hn h
 rw[List.map_const',List.map_const',List.sum_replicate_nat,List.sum_replicate_nat,List.length_range]at h1;omega
def Dn(E:List (Int×Int)):List Nat->Prop
 | []=>False
 | [_]=>True
 |a::b::r=>ed E a b/\Dn E (b::r)
theorem Dn.way: ∀{r:List Nat} {a:Nat},Dn E (a::r)-> ∀b∈r,Way E a b
  | [],_,_,b,hb=>by simp at hb
  | c :: r, a, h, b, hb => by
    rcases List.mem_cons.mp hb with rfl|hb
    · exact .one h.1
    · exact(Way.one h.1).trans (Dn.way h.2 b hb)
theorem Dn.nodup(hA:Acyc E): ∀{p:List Nat},Dn E p->p.Nodup
  | [],h=>h.elim
  | [b],_=>by simp
  | a :: b :: r, h => by
    rw[List.nodup_cons];exact⟨fun hm=>hA a (Dn.way h a hm),Dn.nodup hA h.2⟩
theorem Dn.lt{n:Nat}(hF:Fits n E): ∀{p:List Nat},Dn E p->2<=p.length-> ∀x∈p,x<n
  | [],h,_,_,_=>h.elim
  | [b],_,h1,x,hx=>by simp at h1
  | [a, b], h, _, x, hx => by
    have hab:=ed_lt hF h.1;simp at hx;rcases hx with rfl|rfl
    · exact hab.1
    · exact hab.2
  | a :: b :: c :: r, h, _, x, hx => by
    have hab:=ed_lt hF h.1;rcases List.mem_cons.mp hx with rfl|hx
    · exact hab.1
    · exact Dn.lt hF h.2 (by simp) x hx
theorem source{n:Nat}(hF:Fits n E)(hA:Acyc E)(S:Nat->Prop)(u:Nat)(hu:S u): ∃v,S v/\ ∀a,ed E a v-> ¬S a:=by
  apply Classical.byContradiction
  intro hno;have hall: ∀v,S v-> ∃a,ed E a v/\S a:=fun v hv=>Classical.byContradiction fun h=>hno ⟨v,hv,fun a ha hs=>h ⟨a,ha,hs⟩⟩
  have key: ∀k:Nat,∃(a:Nat) (r:List Nat),r.length=k/\Dn E (a::r)/\S a:=by
    intro k
    induction k with
    |zero=>exact⟨u, [],rfl,trivial,hu⟩
    | succ k ih =>
      obtain⟨a,r,hl,hp,ha⟩:=ih;obtain⟨b,hb,hs⟩:=hall a ha;exact⟨b,a::r,by simp[hl],⟨hb,hp⟩,hs⟩
  obtain⟨a,r,hl,hp,_⟩:=key (n+1);have h1:=length_below n (a::r) (hp.nodup hA) (hp.lt hF (by simp[hl]))
  simp[hl]at h1;omega
theorem ed_snoc{a b x y:Nat}:ed (E++ [((a:Int),(b:Int))]) x y↔ed E x y\/(x=a/\y=b):=by
 unfold ed;rw[List.mem_append,List.mem_singleton,Prod.mk.injEq,Int.ofNat_inj,Int.ofNat_inj]
theorem Acyc.mono{E':List (Int×Int)}(hA:Acyc E)(h: ∀a b,ed E' a b->ed E a b):Acyc E':=fun a hw=>hA a (hw.mono h)
theorem Up.mono{E':List (Int×Int)}(h: ∀a b,ed E a b->ed E' a b): ∀{p:List Nat},Up E p->Up E' p
 | [],k=>k.elim
 | [_],_=>trivial
 |b::a::r,k=>⟨h _ _ k.1,Up.mono h k.2⟩
def wsum(W:List Int)(p:List Nat):Int:=(p.map fun x=>W.getD x 0).sum
def In(n:Nat)(p:List Nat):Prop:=∀ x∈p,x<n
def ranT(t:List (List Int))(x:Int)(k:Nat):Nat:=(t.take k).flatten.count x
def rowT(t:List (List Int))(i:Nat):List Int:=t.getD i []
def numT(t:List (List Int))(i c:Nat):Int:=(rowT t i).getD c (-1)
def needT(need:List Int)(x:Int):Int:=need.getD x.toNat 0
theorem rowT_at{t:List (List Int)}{i:Nat}{r:List Int}(h:t[i]? =some r):rowT t i=r:=by unfold rowT;rw[List.getD_eq_getElem?_getD,h];rfl
theorem rowT_out{t:List (List Int)}{i:Nat}(h:t.length<=i):rowT t i= []:=by unfold rowT;rw[List.getD_eq_getElem?_getD,List.getElem?_eq_none h];rfl
theorem numT_at{t:List (List Int)}{i c:Nat}{r:List Int}{x:Int}(h:t[i]? =some r)(hx:r[c]? =some x):numT t i c=x:=by unfold numT;rw[rowT_at h,List.getD_eq_getElem?_getD,hx];rfl
theorem rowT_mem{t:List (List Int)}{i:Nat}(h:i<t.length):rowT t i∈t:=by
 rw[rowT_at (List.getElem?_eq_getElem h)]
 exact List.getElem_mem h
theorem take_row{t:List (List Int)}{k:Nat}(h:k<t.length):t.take (k+1)=t.take k++ [rowT t k]:=by
 rw[List.take_add_one,List.getElem?_eq_getElem h,rowT_at (List.getElem?_eq_getElem h)];rfl
theorem ranT_zero(t:List (List Int))(x:Int):ranT t x 0=0:=by simp[ranT]
theorem ranT_succ{t:List (List Int)}{k:Nat}(x:Int)(h:k<t.length):ranT t x (k+1)=ranT t x k+(rowT t k).count x:=by
 unfold ranT;rw[take_row h,List.flatten_append,List.count_append];simp
theorem ranT_over{t:List (List Int)}{k:Nat}(x:Int)(h:t.length<=k):ranT t x k=ranT t x t.length:=by
 unfold ranT;rw[List.take_of_length_le h,List.take_length]
theorem ranT_step(t:List (List Int))(x:Int)(k:Nat):ranT t x (k+1)=ranT t x k+(rowT t k).count x:=by
 rcases Nat.lt_or_ge k t.length with h|h
 ·exact ranT_succ x h
 ·rw[ranT_over x (by omega),ranT_over x h,rowT_out h];simp
theorem ranT_mono(t:List (List Int))(x:Int){j k:Nat}(h:j<=k):ranT t x j<=ranT t x k:=by
  induction k with
  | zero => obtain rfl : j = 0 := by omega
            exact Nat.le_refl _
  | succ k ih =>
    rcases Nat.lt_or_ge j (k+1)with hj|hj
    · have:=ih (by omega)
      rw[ranT_step];omega
    · obtain rfl:j=k+1:=by omega
      exact Nat.le_refl _
theorem ranT_take(t:List (List Int))(x:Int)(a k:Nat)(h:k<=a):ranT (t.take a) x k=ranT t x k:=by
 unfold ranT;rw[List.take_take,Nat.min_eq_left h]
theorem rowT_take(t:List (List Int))(a i:Nat)(h:i<a):rowT (t.take a) i=rowT t i:=by
 unfold rowT;rw[List.getD_eq_getElem?_getD,List.getD_eq_getElem?_getD,List.getElem?_take,if_pos h]
def FreeT(E:List (Int×Int))(need:List Int)(t:List (List Int))(x:Int)(k:Nat):Prop:=∀ e∈E,e.2=x->needT need e.1<=ranT t e.1 k
instance (E:List (Int×Int)) (need:List Int) (t:List (List Int)) (x:Int) (k:Nat):Decidable (FreeT E need t x k):=by unfold FreeT;infer_instance
def oneV(E:List (Int×Int))(need:List Int)(t:List (List Int))(i c:Nat):Int:=
 if numT t i c= -1 then 0
 else if numT t i c<0\/(need.length:Int)<=numT t i c then 101
 else if numT t i c∈(rowT t i).take c then 102
 else if needT need (numT t i c)<=ranT t (numT t i c) i then 105
 else if 0<ranT t (numT t i c) i/\numT t (i - 1) c≠numT t i c then 104
 else if ranT t (numT t i c) i=0/\ ¬FreeT E need t (numT t i c) i then 103
 else 0
def firstV(f:Nat->Int):Nat->Int
 |0=>0
 |k+1=>if firstV f k=0 then f k else firstV f k
theorem firstV_stay{f:Nat->Int}{k:Nat}(h:firstV f k≠0): ∀d,firstV f (k+d)=firstV f k
  |0=>rfl
  | d + 1 => by
    show(if firstV f (k+d)=0 then f (k+d)else firstV f (k+d))=_
    rw[firstV_stay h d,if_neg h]
theorem firstV_hit{f:Nat->Int}{k n:Nat}(h0:firstV f k=0)(h:f k≠0)(hn:k<n):firstV f n=f k:=by
 have h1:firstV f (k+1)=f k:=by show(if firstV f k=0 then f k else firstV f k)=_;rw[if_pos h0]
 have h2:=firstV_stay (f:=f) (k:=k+1) (by rw[h1];exact h) (n - (k+1))
 rw[show k+1+(n - (k+1))=n by omega]at h2
 rw[h2,h1]
theorem firstV_next{f:Nat->Int}{k:Nat}(h0:firstV f k=0)(h:f k=0):firstV f (k+1)=0:=by
 show(if firstV f k=0 then f k else firstV f k)=0;rw[if_pos h0,h]
theorem firstV_zero{f:Nat->Int}{n:Nat}:firstV f n=0↔ ∀k,k<n->f k=0:=by
  induction n with
  |zero=>exact⟨fun _ k hk=>absurd hk (by omega),fun _=>rfl⟩
  | succ n ih =>
    constructor
    · intro h k hk;have h':(if firstV f n=0 then f n else firstV f n)=0:=h
      by_cases h0:firstV f n=0
      · rw[if_pos h0]at h';rcases Nat.lt_or_ge k n with h1|h1
        · exact ih.mp h0 k h1
        · rw[show k=n by omega];exact h'
      · rw[if_neg h0]at h';exact absurd h' h0
    · intro h;exact firstV_next (ih.mpr fun k hk=>h k (by omega)) (h n (by omega))
def tickV(E:List (Int×Int))(need:List Int)(cores:Nat)(t:List (List Int))(i:Nat):Int:=firstV (oneV E need t i) cores
def faultV(E:List (Int×Int))(need:List Int)(cores:Nat)(t:List (List Int)):Int:=firstV (tickV E need cores t) t.length
structure Good(E:List (Int×Int))(need:List Int)(cores:Nat)(t:List (List Int)):Prop where
 rows: ∀r∈t,r.length=cores
 one: ∀i,i<t.length-> ∀c,c<cores->oneV E need t i c=0
theorem good_iff{E:List (Int×Int)}{need:List Int}{cores:Nat}{t:List (List Int)}(h: ∀r∈t,r.length=cores):Good E need cores t↔faultV E need cores t=0:=by
 unfold faultV;rw[firstV_zero];constructor
 ·intro g i hi
  exact firstV_zero.mpr (g.one i hi)
 ·intro k
  exact⟨h,fun i hi=>firstV_zero.mp (k i hi)⟩
section
variable {E: List (Int × Int)} {need: List Int} {cores: Nat} {t: List (List Int)}
theorem oneV_zero{i c:Nat}(h:oneV E need t i c=0):numT t i c= -1\/((0<=numT t i c/\numT t i c<need.length)/\numT t i c∉(rowT t i).take c/\(ranT t (numT t i c) i:Int)<needT need (numT t i c)/\
  (0<ranT t (numT t i c) i->numT t (i - 1) c=numT t i c)/\(ranT t (numT t i c) i=0->FreeT E need t (numT t i c) i)):=by
 unfold oneV at h
 by_cases h1:numT t i c= -1
 ·exact .inl h1
 rw[if_neg h1]at h
 by_cases h2:numT t i c<0\/(need.length:Int)<=numT t i c
 ·rw[if_pos h2]at h;exact absurd h (by decide)
 rw[if_neg h2]at h
 by_cases h3:numT t i c∈(rowT t i).take c
 ·rw[if_pos h3]at h;exact absurd h (by decide)
 rw[if_neg h3]at h
 by_cases h4:needT need (numT t i c)<=ranT t (numT t i c) i
 ·rw[if_pos h4]at h;exact absurd h (by decide)
 rw[if_neg h4]at h
 by_cases h5:0<ranT t (numT t i c) i/\numT t (i - 1) c≠numT t i c
 ·rw[if_pos h5]at h;exact absurd h (by decide)
 rw[if_neg h5]at h
 by_cases h6:ranT t (numT t i c) i=0/\ ¬FreeT E need t (numT t i c) i
 ·rw[if_pos h6]at h;exact absurd h (by decide)
 refine .inr ⟨⟨by omega,by omega⟩,h3,by omega,fun k=> ?_,fun k=> ?_⟩
 ·exact Classical.byContradiction fun q=>h5 ⟨k,q⟩
 ·exact Classical.byContradiction fun q=>h6 ⟨k,q⟩
theorem oneV_take(a i c:Nat)(h:i<a):oneV E need (t.take a) i c=oneV E need t i c:=by
 have h1:rowT (t.take a) i=rowT t i:=rowT_take t a i h;have h2:rowT (t.take a) (i - 1)=rowT t (i - 1):=rowT_take t a (i - 1) (by omega)
 have h3: ∀x,ranT (t.take a) x i=ranT t x i:=fun x=>ranT_take t x a i (by omega)
 unfold oneV numT FreeT;simp only[h1,h2,h3]
theorem Good.take(G:Good E need cores t)(a:Nat):Good E need cores (t.take a):=
 ⟨fun r hr=>G.rows r (List.mem_of_mem_take hr),fun i hi c hc=>by
  rw[List.length_take]at hi;rw[oneV_take a i c (by omega)]
  exact G.one i (by omega) c hc⟩
theorem Good.len(G:Good E need cores t){i:Nat}(h:i<t.length):(rowT t i).length=cores:=G.rows _ (rowT_mem h)
theorem Good.at_(G:Good E need cores t){i c:Nat}(hi:i<t.length)(hc:c<cores)(x:Int)(hx:numT t i c=x)(h1:x≠ -1):
  (0<=x/\x<need.length)/\x∉(rowT t i).take c/\(ranT t x i:Int)<needT need x/\(0<ranT t x i->numT t (i - 1) c=x)/\(ranT t x i=0->FreeT E need t x i):=by
 subst hx;rcases oneV_zero (G.one i hi c hc)with h|h
 ·exact absurd h h1
 ·exact h
theorem mem_num{i:Nat}{x:Int}(h:x∈rowT t i): ∃c,c<(rowT t i).length/\numT t i c=x:=by
 obtain⟨c,hc,he⟩:=List.getElem_of_mem h;refine⟨c,hc,?_⟩
 unfold numT;rw[List.getD_eq_getElem?_getD,List.getElem?_eq_getElem hc]
 exact he
theorem num_mem{i c:Nat}(h:c<(rowT t i).length):numT t i c∈rowT t i:=by
 unfold numT;rw[List.getD_eq_getElem?_getD,List.getElem?_eq_getElem h]
 exact List.getElem_mem h
theorem count_take_succ{l:List Int}{k:Nat}(h:k<l.length)(x:Int):(l.take (k+1)).count x=(l.take k).count x+if l.getD k (-1)=x then 1 else 0:=by
 rw[List.take_add_one,List.getElem?_eq_getElem h,List.getD_eq_getElem?_getD,List.getElem?_eq_getElem h]
 simp only[Option.toList_some,Option.getD_some,List.count_append,List.count_singleton,beq_iff_eq]
theorem Good.count(G:Good E need cores t){i:Nat}(hi:i<t.length)(x:Int)(h1:x≠ -1):(rowT t i).count x<=1:=by
  have hl:=G.len hi;have key: ∀k,k<=cores->((rowT t i).take k).count x<=1:=by
    intro k
    induction k with
    |zero=>intro _;simp
    | succ k ih =>
      intro hk;rw[count_take_succ (by omega)]
      by_cases hx:(rowT t i).getD k (-1)=x
      · rw[if_pos hx];have h2:=(G.at_ hi (by omega:k<cores) x hx h1).2.1
        rw[List.count_eq_zero.mpr h2];omega
      · rw[if_neg hx];exact ih (by omega)
  have:=key cores (Nat.le_refl _)
  rwa [List.take_of_length_le (by omega)]at this
theorem Good.mem(G:Good E need cores t){i:Nat}(hi:i<t.length){x:Int}(hx:x∈rowT t i):x= -1\/(0<=x/\x<need.length):=by
 obtain⟨c,hc,he⟩:=mem_num hx
 by_cases h1:x= -1
 ·exact .inl h1
 ·exact .inr (G.at_ hi (by rw[G.len hi]at hc;exact hc) x he h1).1
theorem Good.ran_le(G:Good E need cores t)(hn: ∀z∈need,1<=z){x:Int}(h0:0<=x)(hx:x<need.length): ∀k,(ranT t x k:Int)<=needT need x:=by
  intro k
  induction k with
  | zero =>
    rw[ranT_zero];have h2:x.toNat<need.length:=by omega
    have:=hn need[x.toNat] (List.getElem_mem h2);unfold needT;rw[List.getD_eq_getElem?_getD,List.getElem?_eq_getElem h2]
    simp;omega
  | succ k ih =>
    rcases Nat.lt_or_ge k t.length with hk|hk
    · rw[ranT_step]
      by_cases hm:x∈rowT t k
      · obtain⟨c,hc,he⟩:=mem_num hm;have h1:=(G.at_ hk (by rw[G.len hk]at hc;exact hc) x he (by omega)).2.2.1
        have h2:=G.count hk x (by omega)
        omega
      · rw[List.count_eq_zero.mpr hm];omega
    · rw[ranT_over x (by omega),<-ranT_over x hk]
      exact ih
def RunT(t:List (List Int))(cores:Nat)(x:Int)(k s m c:Nat):Prop:=0<m/\s+m<=k/\c<cores/\ranT t x k=m/\ ∀i,i<k-> ∀d,d<cores->(numT t i d=x↔(s<=i/\i<s+m)/\d=c)
theorem Good.run(G:Good E need cores t)(x:Int)(h1:x≠ -1): ∀k,k<=t.length->ranT t x k=0\/ ∃s m c,RunT t cores x k s m c:=by
  intro k
  induction k with
  |zero=>exact fun _=> .inl (ranT_zero t x)
  | succ k ih =>
    intro hk;have hkt:k<t.length:=by omega
    have hl:=G.len hkt
    by_cases hm:x∈rowT t k
    · obtain⟨c,hc,he⟩:=mem_num hm;rw[hl]at hc;have ha:=G.at_ hkt hc x he h1;have hcount:(rowT t k).count x=1:=by
        have:=G.count hkt x h1;have:=List.count_pos_iff.mpr hm;omega
      have huniq: ∀d,d<cores->numT t k d=x->d=c:=by
        intro d hd hdx;have hb:=G.at_ hkt hd x hdx h1;have part: ∀a b,a<b->b<cores->numT t k a=x->x∉(rowT t k).take b->False:=by
          intro a b hab hb hax hn;refine hn ?_
          rw[<-hax];unfold numT;rw[List.getD_eq_getElem?_getD,List.getElem?_eq_getElem (by omega:a<(rowT t k).length)]
          rw[List.mem_iff_getElem?]
          refine⟨a,?_⟩
          rw[List.getElem?_take,if_pos hab,List.getElem?_eq_getElem (by omega:a<(rowT t k).length)]
          rfl
        rcases Nat.lt_trichotomy d c with h|h|h
        · exact(part d c h hc hdx ha.2.1).elim
        · exact h
        · exact(part c d h hd he hb.2.1).elim
      have hs:=ranT_step t x k;right;rcases ih (by omega)with h0|⟨s,m,c',hm0,hsm,hc',hr,hiff⟩
      · refine⟨k,1,c,by omega,by omega,hc,by omega,fun i hi d hd=> ?_⟩
        rcases Nat.lt_or_ge i k with hik|hik
        · constructor
          · intro hx
            exfalso
            have h2:x∈rowT t i:=by rw[<-hx];exact num_mem (by rw[G.len (by omega)];exact hd)
            have h3:=ranT_step t x i;have h4:=List.count_pos_iff.mpr h2;have h5:=ranT_mono t x (show i+1<=k by omega)
            omega
          · intro h;omega
        · obtain rfl:i=k:=by omega
          constructor
          · intro hx;exact⟨by omega,huniq d hd hx⟩
          · rintro⟨_,rfl⟩;exact he
      · have h2:=ha.2.2.2.1 (by omega)
        have hk1:k - 1<k:=by omega
        have h3:=(hiff (k - 1) hk1 c hc).mp h2;obtain rfl:c=c':=h3.2;refine⟨s,m+1,c,by omega,by omega,hc,by omega,fun i hi d hd=> ?_⟩
        rcases Nat.lt_or_ge i k with hik|hik
        · rw[hiff i hik d hd];constructor
          · intro h;exact⟨by omega,h.2⟩
          · intro h;exact⟨by omega,h.2⟩
        · obtain rfl:i=k:=by omega
          constructor
          · intro hx;exact⟨by omega,huniq d hd hx⟩
          · rintro⟨_,rfl⟩;exact he
    · have hs:=ranT_step t x k;rw[List.count_eq_zero.mpr hm]at hs;have hno: ∀d,d<cores->numT t k d≠x:=fun d hd h=>hm (by rw[<-h];exact num_mem (by omega))
      rcases ih (by omega)with h0|⟨s,m,c',hm0,hsm,hc',hr,hiff⟩
      · exact .inl (by omega)
      · refine .inr ⟨s,m,c',hm0,by omega,hc',by omega,fun i hi d hd=> ?_⟩
        rcases Nat.lt_or_ge i k with hik|hik
        · exact hiff i hik d hd
        · obtain rfl:i=k:=by omega
          constructor
          · intro hx;exact absurd hx (hno d hd)
          · intro h;omega
theorem RunT.ran(G:Good E need cores t){x:Int}(h1:x≠ -1){k s m c:Nat}(hk:k<=t.length)(h:RunT t cores x k s m c): ∀j,j<=k->ranT t x j=min (j - s) m:=by
  obtain⟨hm,hsm,hc,hr,hiff⟩:=h;intro j
  induction j with
  |zero=>intro _;rw[ranT_zero];omega
  | succ j ih =>
    intro hj;have ih:=ih (by omega)
    rw[ranT_step,ih];have hl:=G.len (show j<t.length by omega)
    by_cases hx:x∈rowT t j
    · obtain⟨d,hd,he⟩:=mem_num hx;have h2:=(hiff j (by omega) d (by omega)).mp he
      have:=G.count (show j<t.length by omega) x h1
      have:=List.count_pos_iff.mpr hx;omega
    · rw[List.count_eq_zero.mpr hx];have h2: ¬(s<=j/\j<s+m):=fun h=>hx (by rw[<-(hiff j (by omega) c hc).mpr ⟨h,rfl⟩];exact num_mem (by omega))
      omega
end
end Go.Proofs.YtngdbbligebcbabGreatDoor
