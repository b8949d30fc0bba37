import Derived.Test.YtlfekmbalgkmeaaGreatDoorChecked
import Derived.WalkKit
import Derived.WalkSmall
import Derived.Below
import Derived.Laws.Rows
import Derived.Laws.OwnMore
import Derived.Laws.MakeOwn
import Derived.Test.YtlfekmbalgkmeaaGreatDoorZM1
import Derived.Handy
import Derived.KernelRfl
import Derived.BigQuiet
import Derived.Deep.QuietTactic
import Derived.Lib.Hide
import Derived.ArgAppend
import Derived.OwnWalk
import Derived.Laws.ResultCell
import Derived.Shelf.Abstract
set_option linter.unusedSimpArgs false
set_option linter.unnecessarySimpa false
set_option linter.unusedVariables false
set_option maxHeartbeats 4000000
namespace Go.Proofs.YtlfekmbalgkmeaaGreatDoor
open Go.RowKit
def RowV(g:Nat)(t:TypeId)(vs:List Value)(w:World):Prop:=w.heap[g]? =some (.cells vs.toArray t (0,0))
theorem RowV.lt{g:Nat}{t:TypeId}{vs:List Value}{w:World}(h:RowV g t vs w):g<w.heap.size:=(Array.getElem?_eq_some_iff.1 h).1
theorem RowV.new(w:World)(t:TypeId)(vs:List Value):RowV w.heap.size t vs (w.alloc (.cells vs.toArray t)):=heap_alloc_new w _
theorem RowV.cell{g:Nat}{t:TypeId}{vs:List Value}{w:World}(h:RowV g t vs w){j:Nat}{v:Value}(hj:vs[j]? =some v):w.cell? ⟨g,j,none⟩=some v:=by
 rw[cell_of_row _ _ _ _ _ _ h]
 simpa using hj
theorem RowV.frozen{g:Nat}{t:TypeId}{vs:List Value}{w:World}(h:RowV g t vs w)(j:Nat):w.frozen? ⟨g,j,none⟩=false:=frozen_of_row _ _ _ _ _ h
theorem RowV.set{g:Nat}{t:TypeId}{vs:List Value}{w:World}(h:RowV g t vs w)(j:Nat)(v:Value):RowV g t (vs.set j v) (w.setCell ⟨g,j,none⟩ v):=by
 have:=heap_setCell_same w g j _ t v h;unfold RowV;rw[this];simp
theorem RowV.below{g:Nat}{t:TypeId}{vs:List Value}{w w':World}{B:Nat}(h:RowV g t vs w)(hb:Below B w w')(hB:g<B):RowV g t vs w':=by
 unfold RowV;rw[hb.block g hB];exact h
theorem RowV.alloc{g:Nat}{t:TypeId}{vs:List Value}{w:World}(h:RowV g t vs w)(o:Obj):RowV g t vs (w.alloc o):=by
 unfold RowV;rw[Below.heap_alloc w o g h.lt];exact h
theorem bool_cell_info:(Tryz.prog.info? 4).map (fun i=>(i.zero,i.size,i.bytes))=some (some (.bool false),1,1):=by kernel_rfl
theorem make_bools(n:Nat)(hn:n<=1000)(W:World):(Instr.makeSlice 158 (.int .i64 n) (.int .i64 n)).run Tryz.prog W= .ok (.slice (some ⟨W.heap.size,0,none⟩) n n) (W.alloc (.cells (List.replicate n (Value.bool false)).toArray 4)):=by
  obtain⟨i0,hi,hz0,hz1,hz2⟩: ∃i,Tryz.prog.info? 4=some i/\i.zero=some (.bool false)/\i.size=1/\i.bytes=1:=by
    have h:=bool_cell_info;cases hi:Tryz.prog.info? 4 with
    |none=>rw[hi]at h;cases h
    | some i =>
      rw[hi]at h;simp at h;exact⟨i,rfl,h.1,h.2.1,h.2.2⟩
  have h:=run_make (P:=Tryz.prog) W 158 4 i0 (.bool false) Tryz.underlying158 hi hz0 .i64 .i64 n n (by omega) (by omega) (by rw[hz2];omega) (by omega)
  rw[hz1]at h;have e:madeCells (Value.bool false).cells (((n:Int)).toNat * 1)=(List.replicate n (Value.bool false)).toArray:=by
    apply Array.toList_inj.mp
    rw[show(Value.bool false).cells= #[Value.bool false]from rfl,toList_madeCells_one]
    simp
  rw[e]at h;exact h
def OwnI(w:World)(base:Nat)(v:Value)(zs:List Int):Prop:=w.ownsRow base 3 1 v zs.length (zs.map (Value.int .i64))
theorem OwnI.new(w:World)(base:Nat)(hb:base<=w.heap.size):OwnI (w.alloc (.cells #[] 3)) base (.slice (some ⟨w.heap.size,0,none⟩) 0 0) []:=
 ⟨rfl,.inr ⟨w.heap.size,0,#[],rfl,hb,heap_alloc_new w _,Nat.le_refl _,by simp[maxLen],rfl,rfl⟩⟩
theorem OwnI.below{w w':World}{base:Nat}{v:Value}{zs:List Int}(h:OwnI w base v zs)(hb:Below w.heap.size w w'):OwnI w' base v zs:=by
 refine⟨h.1,?_⟩
 rcases h.2 with hn|⟨g,cap,cur,rfl,hg,hgg,rest⟩
 ·exact .inl hn
 ·exact .inr ⟨g,cap,cur,rfl,hg,by rw[hb.block g (Array.getElem?_eq_some_iff.1 hgg).1];exact hgg,rest⟩
theorem OwnI.alloc{w:World}{base:Nat}{v:Value}{zs:List Int}(h:OwnI w base v zs)(o:Obj):OwnI (w.alloc o) base v zs:=h.below (below_alloc o)
theorem OwnI.slice{w:World}{base:Nat}{v:Value}{zs:List Int}(h:OwnI w base v zs): ∃A c,v= .slice A zs.length c/\Ints w w.heap.size A zs:=Ints.of_own h
theorem int_cell_info:(Tryz.prog.info? 3).map (fun i=>(i.zero,i.size,i.bytes))=some (some (.int .i64 0),1,8):=by kernel_rfl
theorem wpList_push{ops:Array Oper}{rest:List Oper}{o:Oper}{a:Act}{Q:Exit->Act->World->Prop}(hgd:o.guard=none)(s x:Operand)
    (ho:o.op= .call {callee:= .builtin .append,args:= #[s,x],argTypes:= #[40,40]})
    (w1:World) (base:Nat) (v:Value) (zs:List Int) (n:Int) (len:Nat) (hlen:zs.length=len) (hl:len<=1000) (hO:OwnI w1 base v zs) (hB:base<=w1.heap.size)
    (hs:a.eval s=v) (hx:a.eval x= .slice (some ⟨w1.heap.size,0,none⟩) 1 1)
    (h: ∀A' c' w',OwnI w' base (.slice A' (len+1) c') (zs++ [n])->Below base w1 w'->wpList Tryz.prog ops Q rest (a.put o.dst (.slice A' (len+1) c')) w'):wpList Tryz.prog ops Q (o::rest) a (w1.alloc (.cells #[.int .i64 n] 3)):=by
  obtain⟨i0,hi0,hz0,hz1,hz2⟩: ∃i,Tryz.prog.info? 3=some i/\i.zero=some (.int .i64 0)/\i.size=1/\i.bytes=8:=by
    have h:=int_cell_info;cases hi:Tryz.prog.info? 3 with
    |none=>rw[hi]at h;cases h
    | some i =>
      rw[hi]at h;simp at h;exact⟨i,rfl,h.1,h.2.1,h.2.2⟩
  subst hlen;refine wpList_append_own _ hgd s x 40 ho base 3 i0 (.int .i64 0) 1 8 Tryz.underlying40 hi0 hz0 hz1 hz2 rfl (by omega) v zs.length (zs.map (Value.int .i64)) hs (hO.alloc _) ⟨w1.heap.size,0,none⟩ 1 1 [.int .i64 n] hx rfl ?_ ?_
    (by unfold maxLen;omega) (by omega) (by simp;omega) ?_
  · intro j u hu
    match j with
    | 0 =>
      obtain rfl:Value.int .i64 n=u:=by simpa using hu
      rw[addr_add,World.cell?_alloc_at _ _ _ _ rfl]
      rfl
    |j+1=>simp at hu
  · intro u hu;obtain rfl:u= .int .i64 n:=by simpa using hu
    rfl
  · intro v' w' hown' hg _;have hO':OwnI w' base v' (zs++ [n]):=by
      unfold OwnI;rw[List.length_append,List.length_singleton,List.map_append];exact hown'
    obtain⟨A',c',rfl,_⟩:=hO'.slice;rw[show(zs++ [n]).length=zs.length+1 by simp]at hO'⊢
    refine h A' c' w' hO' (((Below.refl base w1).alloc hB _).grown hg (by simp;omega) (fun k hk=> ?_))
    exact(hO.lt k hk).1
def Pairs(w:World)(B:Nat)(A:Option Addr)(es:List (Int×Int)):Prop:=
 0<es.length-> ∃b off,A=some ⟨b,off,none⟩/\b<B/\ ∀k e,es[k]? =some e->w.cell? ⟨b,off+k * 2,none⟩=some (.int .i64 e.1)/\w.cell? ⟨b,off+k * 2+1,none⟩=some (.int .i64 e.2)
theorem Pairs.at_{w:World}{B:Nat}{A:Option Addr}{es:List (Int×Int)}{k:Nat}(h:Pairs w B A es)(hk:k<es.length):
  ∃b off e,A=some ⟨b,off,none⟩/\b<B/\es[k]? =some e/\w.cell? ⟨b,off+k * 2,none⟩=some (.int .i64 e.1)/\w.cell? ⟨b,off+k * 2+1,none⟩=some (.int .i64 e.2):=by
 obtain⟨b,off,e,hb,hc⟩:=h (by omega)
 have he:es[k]? =some es[k]:=List.getElem?_eq_getElem hk
 exact⟨b,off,es[k],e,hb,he,(hc k _ he).1,(hc k _ he).2⟩
theorem Pairs.keep{w w':World}{B:Nat}{A:Option Addr}{es:List (Int×Int)}(h:Pairs w B A es)(hk: ∀p:Addr,p.block<B->w'.cell? p=w.cell? p):Pairs w' B A es:=fun hn=>by
 obtain⟨b,off,e,hb,hc⟩:=h hn;exact⟨b,off,e,hb,fun k x hx=>⟨(hk _ hb).trans (hc k x hx).1,(hk _ hb).trans (hc k x hx).2⟩⟩
theorem Pairs.more{w:World}{B B':Nat}{A:Option Addr}{es:List (Int×Int)}(h:Pairs w B A es)(hB:B<=B'):Pairs w B' A es:=fun hn=>by
 obtain⟨b,off,e,hb,hc⟩:=h hn;exact⟨b,off,e,by omega,hc⟩
theorem Pairs.below{w w':World}{B:Nat}{A:Option Addr}{es:List (Int×Int)}(h:Pairs w B A es)(hb:Below B w w'):Pairs w' B A es:=h.keep fun _ hp=>hb.cell hp
theorem Pairs.alloc{w:World}{B:Nat}{A:Option Addr}{es:List (Int×Int)}(h:Pairs w B A es)(hB:B<=w.heap.size)(o:Obj):Pairs (w.alloc o) B A es:=
 h.keep fun p hp=>World.cell?_alloc_lt w o p (by omega)
def flatE(es:List (Int×Int)):List Value:=es.flatMap fun e=> [.int .i64 e.1,.int .i64 e.2]
theorem flatE_length(es:List (Int×Int)):(flatE es).length=es.length * 2:=by
  induction es with
  |nil=>rfl
  | cons e es ih =>
    rw[show flatE (e::es)= .int .i64 e.1:: .int .i64 e.2::flatE es from rfl,List.length_cons,List.length_cons,List.length_cons,ih]
    omega
theorem flatE_append(a b:List (Int×Int)):flatE (a++b)=flatE a++flatE b:=by unfold flatE;rw[List.flatMap_append]
theorem flatE_at: ∀{es:List (Int×Int)} {k:Nat} {e:Int×Int},es[k]? =some e->(flatE es)[k * 2]? =some (.int .i64 e.1)/\(flatE es)[k * 2+1]? =some (.int .i64 e.2)
  | [],k,e,h=>by simp at h
  | x :: es, 0, e, h => by
    obtain rfl:x=e:=by simpa using h
    exact⟨rfl,rfl⟩
  | x :: es, k + 1, e, h => by
    have ih:=flatE_at (es:=es) (k:=k) (e:=e) (by simpa using h)
    have e1:flatE (x::es)= .int .i64 x.1:: .int .i64 x.2::flatE es:=rfl;rw[e1,show(k+1) * 2=k * 2+1+1 by omega]
    simp only[List.getElem?_cons_succ]
    exact ih
theorem flatE_cell{es:List (Int×Int)}{j:Nat}{u:Value}(h:(flatE es)[j]? =some u): ∃e,es[j/2]? =some e/\((j%2=0/\u= .int .i64 e.1)\/(j%2=1/\u= .int .i64 e.2)):=by
 have hj:j<es.length * 2:=by
  rw[<-flatE_length];rcases Nat.lt_or_ge j (flatE es).length with h1|h1
  ·exact h1
  ·rw[List.getElem?_eq_none h1]at h;cases h
 have hk:es[j/2]? =some es[j/2]:=List.getElem?_eq_getElem (by omega)
 refine⟨_,hk,?_⟩
 obtain⟨h1,h2⟩:=flatE_at hk;rcases Nat.mod_two_eq_zero_or_one j with h0|h0
 ·rw [show j / 2 * 2 = j by omega,h] at h1
  exact .inl ⟨h0,Option.some.inj h1⟩
 ·rw [show j / 2 * 2 + 1 = j by omega,h] at h2
  exact .inr ⟨h0,Option.some.inj h2⟩
theorem flatE_one(es:List (Int×Int)): ∀u∈flatE es,u.oneCell'=true:=by
 intro u hu;unfold flatE at hu;obtain⟨e,_,h⟩:=List.mem_flatMap.mp hu;rcases(by simpa using h:u= .int .i64 e.1\/u= .int .i64 e.2)with rfl|rfl<;>rfl
theorem Pairs.news{w:World}{B:Nat}{ad:Addr}{es:List (Int×Int)}(h:Pairs w B (some ad) es): ∀j u,(flatE es)[j]? =some u->w.cell? (ad.add j)=some u:=by
 intro j u hu;obtain⟨e,he,hu2⟩:=flatE_cell hu;have hl:0<es.length:=by
  cases es with
  |nil=>simp at he
  |cons _ _=>simp
 obtain⟨b,off,hA,_,hc⟩:=h hl;injection hA with hA;subst hA;rw[addr_add];obtain⟨c1,c2⟩:=hc _ _ he;rcases hu2 with⟨h0,rfl⟩|⟨h0,rfl⟩
 ·rw [show off + j = off + j / 2 * 2 by omega]
  exact c1
 ·rw [show off + j = off + j / 2 * 2 + 1 by omega]
  exact c2
def OwnE(w:World)(base:Nat)(v:Value)(es:List (Int×Int)):Prop:=w.ownsRow base 131 2 v es.length (flatE es)
theorem own_below{w w':World}{base:Nat}{e:TypeId}{s n:Nat}{v:Value}{xs:List Value}(h:w.ownsRow base e s v n xs)(hb:Below w.heap.size w w'):w'.ownsRow base e s v n xs:=by
 refine⟨h.1,?_⟩
 rcases h.2 with hn|⟨g,cap,cur,rfl,hg,hgg,rest⟩
 ·exact .inl hn
 ·exact .inr ⟨g,cap,cur,rfl,hg,by rw[hb.block g (Array.getElem?_eq_some_iff.1 hgg).1];exact hgg,rest⟩
theorem OwnE.below{w w':World}{base:Nat}{v:Value}{es:List (Int×Int)}(h:OwnE w base v es)(hb:Below w.heap.size w w'):OwnE w' base v es:=own_below h hb
theorem own_less{w:World}{base base':Nat}{e:TypeId}{s n:Nat}{v:Value}{xs:List Value}(h:w.ownsRow base e s v n xs)(hb:base'<=base):w.ownsRow base' e s v n xs:=by
 refine⟨h.1,?_⟩
 rcases h.2 with hn|⟨g,cap,cur,rfl,hg,rest⟩
 ·exact .inl hn
 ·exact .inr ⟨g,cap,cur,rfl,by omega,rest⟩
theorem OwnE.slice{w:World}{base:Nat}{v:Value}{es:List (Int×Int)}(h:OwnE w base v es): ∃A c,v= .slice A es.length c/\Pairs w w.heap.size A es:=by
 rcases h.2 with⟨rfl,hn⟩|⟨g,cap,cur,rfl,hg,hgg,hnc,hcm,hcs,htake⟩
 ·have: es = []:=List.eq_nil_of_length_eq_zero hn
  subst this;exact⟨none,0,rfl,fun h0=>absurd h0 (by simp)⟩
 ·refine ⟨some ⟨g,0,none⟩,cap,rfl,fun _ => ⟨g,0,rfl,(Array.getElem?_eq_some_iff.1 hgg).1,fun k e he => ?_⟩⟩
  obtain⟨h1,h2⟩:=flatE_at he;have h':w.ownsRow base 131 2 (.slice (some ⟨g,0,none⟩) es.length cap) es.length (flatE es):=h;have c1:=h'.cells (g:=g) rfl _ _ h1;have c2:=h'.cells (g:=g) rfl _ _ h2;rw[addr_add]at c1 c2;rw[show 0+(k * 2+1)=0+k * 2+1 by omega]at c2
  exact⟨c1,c2⟩
theorem edge_cell_info:(Tryz.prog.info? 131).map (fun i=>(i.zero,i.size,i.bytes))=some (some (.agg #[.int .i64 0,.int .i64 0]),2,16):=by kernel_rfl
theorem fresh_append{P:Program}(w:World)(t ty e:TypeId)(i:TypeInfo)(z:Value)(size bytes:Nat)(ht:P.underlying t=some (.slice e))(hi:P.info? e=some i)(hz:i.zero=some z)
    (hsize:i.size=size) (hby:i.bytes=bytes) (hzs:z.cells.size=size) (hsz:0<size) (base g:Nat) (hg:w.heap[g]? =some (.cells #[] e (0,0))) (hbg:base<=g) (hbw:base<=w.heap.size)
    (A:Option Addr) (len c:Nat) (news:List Value) (hl:news.length=len * size) (hA:A=none->len=0/\c=0) (hnews: ∀ad,A=some ad-> ∀j u,news[j]? =some u->w.cell? (ad.add j)=some u) (h1: ∀u∈news,u.oneCell'=true)
    (h63:len<=maxLen) (hbytes:len * bytes<=140737488355328):
    ∃v' w',(Builtin.append_ #[t,t] ty #[.slice (some ⟨g,0,none⟩) 0 0, .slice A len c]).run P w= .ok v' w'/\w'.ownsRow base e size v' len news/\Below w.heap.size w w':=by
  have hown:w.ownsRow base e size (.slice (some ⟨g,0,none⟩) 0 0) 0 []:=⟨by simp, .inr ⟨g,0, #[],rfl,hbg,hg,Nat.le_refl _,by simp[maxLen],by simp,by simp⟩⟩
  cases A with
  | none =>
    obtain⟨rfl,rfl⟩:=hA rfl;obtain rfl:news= []:=List.eq_nil_of_length_eq_zero (by simpa using hl)
    exact⟨_,w,run_append_owned_none w base t ty e i size ht hi _ 0 [] hown,hown,Below.refl _ _⟩
  | some ad =>
    rcases Nat.eq_zero_or_pos len with h0|h0
    · subst h0;obtain rfl:news= []:=List.eq_nil_of_length_eq_zero (by simpa using hl)
      have hr:=run_append_room (P:=P) w t ty e i ht hi g 0 0 #[] hg ad 0 c [] (by simp) (fun j u h=>by simp at h) (fun u h=>by simp at h) (by omega) (by simp)
      refine⟨_,_,hr,?_,?_⟩
      · exact⟨by simp, .inr ⟨g,0,_,rfl,hbg,setRow_heap w g _ _ e _ hg,Nat.le_refl _,by simp[maxLen],by simp,by simp⟩⟩
      · refine⟨rfl,rfl,rfl,by simp,fun k _=> ?_⟩
        by_cases hk:k=g
        · subst hk;rw[setRow_heap w k _ _ e _ hg,hg];simp
        · exact setRow_other w g k _ hk
    · obtain⟨v',w',hr,ho,hgr⟩:=run_append_arg_grows (P:=P) w t ty e i z size bytes ht hi hz hsize hby hzs hsz ⟨g,0,none⟩ 0 0 [] (by simp) (fun j u h=>by simp at h) ad len c news hl (hnews ad rfl) (by omega) (by omega) (by simpa using hbytes)
      rw[Nat.zero_add,List.nil_append]at ho;exact⟨v',w',hr,own_less ho hbw,⟨hgr.os,hgr.tape,hgr.output,hgr.size,fun k hk=>hgr.block k hk (by simp)⟩⟩
end Go.Proofs.YtlfekmbalgkmeaaGreatDoor
namespace Go.Proofs.YtlfekmbalgkmeaaGreatDoor
open Go Go.RowKit
structure Rwk(w0:World)(L:List (TypeId×List Value))(w:World):Prop where
 bel:Below w0.heap.size w0 w
 row: ∀(i:Nat) (t:TypeId) (vs:List Value),L[i]? =some (t,vs)->RowV (w0.heap.size+i) t vs w
def allocsK(w:World):List (TypeId×List Value)->World
 | []=>w
 |(t,vs)::L=>allocsK (w.alloc (.cells vs.toArray t)) L
theorem allocsK_snoc(t:TypeId)(vs:List Value): ∀(L:List (TypeId×List Value)) (w:World),allocsK w (L++ [(t,vs)])=(allocsK w L).alloc (.cells vs.toArray t)
 | [],w=>rfl
 |(t',vs')::L,w=>allocsK_snoc t vs L _
theorem allocsK_size: ∀(L:List (TypeId×List Value)) (w:World),(allocsK w L).heap.size=w.heap.size+L.length
  | [],w=>rfl
  | (t, vs) :: L, w => by
    show(allocsK (w.alloc _) L).heap.size=_
    rw[allocsK_size L];simp;omega
theorem Rwk.next{w0 w w':World}{L:List (TypeId×List Value)}(h:Rwk w0 L w)(hb:Below w.heap.size w w'):Rwk w0 L w':=by
 refine⟨h.bel.trans (hb.mono h.bel.size),fun i t vs hi=> ?_⟩
 have:=h.row i t vs hi;exact this.below hb this.lt
theorem Rwk.start(w:World)(L:List (TypeId×List Value)):Rwk w L (allocsK w L):=by
  obtain⟨k,hk⟩: ∃k,k=L.length:=⟨_,rfl⟩
  induction k generalizing L with
  | zero =>
    obtain rfl:L= []:=List.eq_nil_of_length_eq_zero hk.symm;exact⟨Below.refl _ _,fun i t vs hi=>by simp at hi⟩
  | succ k ih =>
    obtain⟨L',x,rfl⟩: ∃L' x,L=L'++ [x]:=⟨L.dropLast,L.getLast (by intro h;subst h;simp at hk),(List.dropLast_concat_getLast _).symm⟩
    obtain⟨t,vs⟩:=x;have h:=ih L' (by simp at hk;omega)
    rw[allocsK_snoc];have h2:=h.next (below_alloc (.cells vs.toArray t));refine⟨h2.bel,fun i t' vs' hi=> ?_⟩
    rcases Nat.lt_or_ge i L'.length with hl|hl
    · rw[List.getElem?_append_left hl]at hi
      exact h2.row i t' vs' hi
    · rw[List.getElem?_append_right hl]at hi
      have h0:i - L'.length=0:=by
        rcases Nat.eq_zero_or_pos (i - L'.length)with e|e
        · exact e
        · rw[List.getElem?_eq_none (by simp;omega)]at hi;cases hi
      rw[h0]at hi;injection hi with hi;injection hi with e1 e2;subst e1 e2;have e3:w.heap.size+i=(allocsK w L').heap.size:=by rw[allocsK_size];omega
      rw[e3];exact RowV.new _ _ _
theorem Rwk.cell{w0 w:World}{L:List (TypeId×List Value)}(h:Rwk w0 L w)(i j:Nat){t:TypeId}{vs:List Value}{v:Value}(hi:L[i]? =some (t,vs))(hj:vs[j]? =some v):w.cell? ⟨w0.heap.size+i,j,none⟩=some v:=(h.row i t vs hi).cell hj
theorem Rwk.frozen{w0 w:World}{L:List (TypeId×List Value)}(h:Rwk w0 L w)(i j:Nat){t:TypeId}{vs:List Value}(hi:L[i]? =some (t,vs)):w.frozen? ⟨w0.heap.size+i,j,none⟩=false:=(h.row i t vs hi).frozen j
theorem Rwk.set{w0 w:World}{L:List (TypeId×List Value)}(h:Rwk w0 L w)(i j:Nat){t:TypeId}{vs:List Value}(hi:L[i]? =some (t,vs))(v:Value):Rwk w0 (L.set i (t,vs.set j v)) (w.setCell ⟨w0.heap.size+i,j,none⟩ v):=by
 refine⟨h.bel.setCell (by show w0.heap.size<=w0.heap.size+i;omega) v,fun k t' vs' hk=> ?_⟩
 by_cases e:i=k
 ·subst e
  have hl:i<L.length:=(List.getElem?_eq_some_iff.mp hi).1
  rw[List.getElem?_set_self hl]at hk
  injection hk with hk;injection hk with e1 e2;subst e1 e2;exact(h.row i t vs hi).set j v
 ·rw [List.getElem?_set_ne e] at hk
  have:=h.row k t' vs' hk;unfold RowV at this⊢;rw[heap_setCell_other _ _ _ _ (by show w0.heap.size+k≠w0.heap.size+i;omega)]
  exact this
theorem Rwk.alloc{w0 w:World}{L:List (TypeId×List Value)}(h:Rwk w0 L w)(o:Obj):Rwk w0 L (w.alloc o):=h.next (below_alloc o)
theorem Rwk.drew{w0 w:World}{L:List (TypeId×List Value)}(h:Rwk w0 L w)(N:Nat):Rwk w0 L (w.drewN N):=h.next (below_drewN (Below.refl _ _) N)
theorem Rwk.set2{w0 w:World}{L:List (TypeId×List Value)}(h:Rwk w0 L w)(i:Nat){t:TypeId}{a b:Value}(hi:L[i]? =some (t,[a,b]))(x y:Value):
  Rwk w0 (L.set i (t,[x,y])) ((w.setCell ⟨w0.heap.size+i,0,none⟩ x).setCell ⟨w0.heap.size+i,1,none⟩ y):=by
 have hl:i<L.length:=(List.getElem?_eq_some_iff.mp hi).1
 have h1:=h.set i 0 hi x;have h2:=h1.set i 1 (List.getElem?_set_self hl) y
 rw[List.set_set]at h2;exact h2
def Shps(w:World)(B:Nat)(A:Option Addr)(es:List Shp):Prop:=
 0<es.length-> ∃b off,A=some ⟨b,off,none⟩/\b<B/\ ∀k e,es[k]? =some e->(w.cell? ⟨b,off+k * 5,none⟩=some (.int .i64 e.t)/\w.cell? ⟨b,off+k * 5+1,none⟩=some (.int .i64 e.l))/\w.cell? ⟨b,off+k * 5+2,none⟩=some (.int .i64 e.m)/\
  w.cell? ⟨b,off+k * 5+3,none⟩=some (.int .i64 e.d)/\w.cell? ⟨b,off+k * 5+4,none⟩=some (.int .i64 e.p)
theorem Shps.at_{w:World}{B:Nat}{A:Option Addr}{es:List Shp}{k:Nat}(h:Shps w B A es)(hk:k<es.length):
  ∃b off t l m d p,A=some ⟨b,off,none⟩/\b<B/\es[k]? =some ⟨t,l,m,d,p⟩/\w.cell? ⟨b,off+k * 5,none⟩=some (.int .i64 t)/\w.cell? ⟨b,off+k * 5+1,none⟩=some (.int .i64 l)/\w.cell? ⟨b,off+k * 5+2,none⟩=some (.int .i64 m)/\
   w.cell? ⟨b,off+k * 5+3,none⟩=some (.int .i64 d)/\w.cell? ⟨b,off+k * 5+4,none⟩=some (.int .i64 p):=by
 obtain⟨b,off,e,hb,hc⟩:=h (by omega)
 have he:es[k]? =some es[k]:=List.getElem?_eq_getElem hk
 obtain⟨⟨c0,c1⟩,c2,c3,c4⟩:=hc k _ he;exact⟨b,off,es[k].t,es[k].l,es[k].m,es[k].d,es[k].p,e,hb,he,c0,c1,c2,c3,c4⟩
theorem Shps.keep{w w':World}{B:Nat}{A:Option Addr}{es:List Shp}(h:Shps w B A es)(hk: ∀p:Addr,p.block<B->w'.cell? p=w.cell? p):Shps w' B A es:=fun hn=>by
 obtain⟨b,off,e,hb,hc⟩:=h hn;refine⟨b,off,e,hb,fun k x hx=> ?_⟩
 obtain⟨⟨c0,c1⟩,c2,c3,c4⟩:=hc k x hx;exact⟨⟨(hk _ hb).trans c0,(hk _ hb).trans c1⟩,(hk _ hb).trans c2,(hk _ hb).trans c3,(hk _ hb).trans c4⟩
theorem Shps.more{w:World}{B B':Nat}{A:Option Addr}{es:List Shp}(h:Shps w B A es)(hB:B<=B'):Shps w B' A es:=fun hn=>by
 obtain⟨b,off,e,hb,hc⟩:=h hn;exact⟨b,off,e,by omega,hc⟩
theorem Shps.below{w w':World}{B:Nat}{A:Option Addr}{es:List Shp}(h:Shps w B A es)(hb:Below B w w'):Shps w' B A es:=h.keep fun _ hp=>hb.cell hp
theorem Shps.via{w w':World}{A:Option Addr}{es:List Shp}(h:Shps w w.heap.size A es)(hb:Below w.heap.size w w'):Shps w' w'.heap.size A es:=(h.below hb).more hb.size
theorem Shps.nil(w:World)(B:Nat)(A:Option Addr):Shps w B A []:=fun h=>absurd h (by simp)
def shpC(s:Shp):List Value:=[.int .i64 s.t,.int .i64 s.l,.int .i64 s.m,.int .i64 s.d,.int .i64 s.p]
def flatS(es:List Shp):List Value:=es.flatMap shpC
theorem flatS_cons(e:Shp)(es:List Shp):flatS (e::es)=shpC e++flatS es:=rfl
theorem flatS_length(es:List Shp):(flatS es).length=es.length * 5:=by
  induction es with
  |nil=>rfl
  | cons e es ih =>
    rw[flatS_cons,List.length_append,ih,List.length_cons];show 5+_=_
    omega
theorem flatS_app(a b:List Shp):flatS (a++b)=flatS a++flatS b:=by unfold flatS;rw[List.flatMap_append]
theorem flatS_at: ∀{es:List Shp} {k:Nat} {e:Shp},es[k]? =some e-> ∀j,j<5->(flatS es)[k * 5+j]? =(shpC e)[j]?
  | [],k,e,h,_,_=>by simp at h
  | x :: es, 0, e, h, j, hj => by
    obtain rfl:x=e:=by simpa using h
    rw[flatS_cons,Nat.zero_mul,Nat.zero_add,List.getElem?_append_left (by show j<5;exact hj)]
  | x :: es, k + 1, e, h, j, hj => by
    have ih:=flatS_at (es:=es) (k:=k) (e:=e) (by simpa using h) j hj
    rw[flatS_cons,List.getElem?_append_right (by show 5<=_;omega)]
    rw[show(k+1) * 5+j - (shpC x).length=k * 5+j by show _ - 5=_;omega]
    exact ih
theorem flatS_cell{es:List Shp}{j:Nat}{u:Value}(h:(flatS es)[j]? =some u): ∃e,es[j/5]? =some e/\(shpC e)[j%5]? =some u:=by
 have hj:j<es.length * 5:=by
  rw[<-flatS_length];rcases Nat.lt_or_ge j (flatS es).length with h1|h1
  ·exact h1
  ·rw[List.getElem?_eq_none h1]at h;cases h
 have hk:es[j/5]? =some es[j/5]:=List.getElem?_eq_getElem (by omega)
 refine⟨_,hk,?_⟩
 have:=flatS_at hk (j%5) (Nat.mod_lt _ (by decide))
 rw[show j/5 * 5+j%5=j by omega,h]at this
 exact this.symm
theorem Shps.news{w:World}{B:Nat}{ad:Addr}{es:List Shp}(h:Shps w B (some ad) es): ∀j u,(flatS es)[j]? =some u->w.cell? (ad.add j)=some u:=by
 intro j u hu;obtain⟨e,he,hu2⟩:=flatS_cell hu;have hl:0<es.length:=by
  cases es with
  |nil=>simp at he
  |cons _ _=>simp
 obtain⟨b,off,hA,_,hc⟩:=h hl;injection hA with hA;subst hA;rw[addr_add];obtain⟨⟨c0,c1⟩,c2,c3,c4⟩:=hc _ _ he;have hm:j%5=0\/j%5=1\/j%5=2\/j%5=3\/j%5=4:=by omega
 have ej:j=j/5 * 5+j%5:=by omega
 rcases hm with h0|h0|h0|h0|h0<;>rw[h0]at hu2 ej<;>obtain rfl:=Option.some.inj hu2<;>rw[ej]
 ·exact c0
 ·exact c1
 ·exact c2
 ·exact c3
 ·exact c4
def OwnS(w:World)(base:Nat)(v:Value)(es:List Shp):Prop:=w.ownsRow base 44 5 v es.length (flatS es)
theorem OwnS.below{w w':World}{base:Nat}{v:Value}{es:List Shp}(h:OwnS w base v es)(hb:Below w.heap.size w w'):OwnS w' base v es:=own_below h hb
theorem OwnS.down{w:World}{b b':Nat}{v:Value}{es:List Shp}(h:OwnS w b v es)(hb:b'<=b):OwnS w b' v es:=own_less h hb
theorem OwnS.slice{w:World}{base:Nat}{v:Value}{es:List Shp}(h:OwnS w base v es): ∃A c,v= .slice A es.length c/\Shps w w.heap.size A es/\(A=none->es.length=0/\c=0):=by
 rcases h.2 with⟨rfl,hn⟩|⟨g,cap,cur,rfl,hg,hgg,hnc,hcm,hcs,htake⟩
 ·have: es = []:=List.eq_nil_of_length_eq_zero hn
  subst this;exact⟨none,0,rfl,fun h0=>absurd h0 (by simp),fun _=>⟨rfl,rfl⟩⟩
 ·refine ⟨some ⟨g,0,none⟩,cap,rfl,fun _ => ⟨g,0,rfl,(Array.getElem?_eq_some_iff.1 hgg).1,fun k e he => ?_⟩,fun e => by cases e⟩
  have h':w.ownsRow base 44 5 (.slice (some ⟨g,0,none⟩) es.length cap) es.length (flatS es):=h;have cc: ∀j,j<5-> ∀u,(shpC e)[j]? =some u->w.cell? ⟨g,0+k * 5+j,none⟩=some u:=fun j hj u hu=>by
   have c:=h'.cells (g:=g) rfl _ _ ((flatS_at he j hj).trans hu);rw[addr_add]at c;rw[show 0+k * 5+j=0+(k * 5+j) by omega]
   exact c
  exact⟨⟨cc 0 (by decide) _ rfl,cc 1 (by decide) _ rfl⟩,cc 2 (by decide) _ rfl,cc 3 (by decide) _ rfl,cc 4 (by decide) _ rfl⟩
theorem OwnS.shps{w:World}{base n c:Nat}{A:Option Addr}{es:List Shp}(h:OwnS w base (.slice A n c) es):Shps w w.heap.size A es:=by
 obtain⟨A',c',e,hs,_⟩:=h.slice;injection e with e1 _ _;rw[e1];exact hs
theorem OwnS.len{w:World}{base n c:Nat}{A:Option Addr}{es:List Shp}(h:OwnS w base (.slice A n c) es):es.length=n:=by
 obtain⟨A',c',e,_⟩:=h.slice;injection e with _ e2 _;exact e2.symm
theorem OwnS.non{w:World}{base n c:Nat}{A:Option Addr}{es:List Shp}(h:OwnS w base (.slice A n c) es):A=none->n=0/\c=0:=by
 obtain⟨A',c',e,_,hn⟩:=h.slice;injection e with e1 e2 e3;rw[e1,e2,e3];exact hn
def GotShps(es:List Shp)(w:World)(e:Ending)(w':World):Prop:=∃ A c,e= .returned (.slice A es.length c)/\OwnS w' w.heap.size (.slice A es.length c) es/\Below w.heap.size w w'
theorem shape_cell_info:(Tryz.prog.info? 44).map (fun i=>(i.zero,i.size,i.bytes))=some (some (.agg #[.int .i64 0,.int .i64 0,.int .i64 0,.int .i64 0,.int .i64 0]),5,40):=by kernel_rfl
theorem shape_info: ∃i,Tryz.prog.info? 44=some i/\i.zero=some (.agg #[.int .i64 0, .int .i64 0, .int .i64 0, .int .i64 0, .int .i64 0])/\i.size=5/\i.bytes=40:=by
  have h:=shape_cell_info;cases hi:Tryz.prog.info? 44 with
  |none=>rw[hi]at h;cases h
  | some i =>
    rw[hi]at h;simp at h;exact⟨i,rfl,h.1,h.2.1,h.2.2⟩
theorem wpList_append_plainS{P:Program}{ops:Array Oper}{rest:List Oper}{o:Oper}{a:Act}{Q:Exit->Act->World->Prop}{w w':World}{v:Value}(hgd:o.guard=none)(s x:Operand)(t:TypeId)(vs vx:Value)
  (ho:o.op= .call {callee:=.builtin .append,args:=#[s,x],argTypes:=#[t,t]}) (hs:a.eval s=vs) (hx:a.eval x=vx) (hr:(Builtin.append_ #[t,t] o.type #[vs,vx]).run P w= .ok v w')
  (h:wpList P ops Q rest (a.put o.dst v) w'):wpList P ops Q (o::rest) a w:=by
 refine wpList_plain hgd fun K hK=> ?_
 unfold Oper.wp execOp;simp only[ho,resolve,invoke,builtin,Sem.run_bind,Sem.run_pure,Result.andThen_ok,List.map_toArray,List.map_cons,List.map_nil,hs,hx,hr];exact hK _ _ h
theorem eg_of{f:Nat}{fn:Func}{c:Code}(hf:Tryz.prog.funcs[f]? =some fn)(hname:(fn.name== "runtime.NumGoroutine")=false)(hb:fn.body=some c): ∀args w,(callFunc f args).run Tryz.prog w= .ok (.enter f args) w:=enters_of hf hname hb
theorem idx_shape(A:Option Addr)(c n:Nat)(es:List Shp)(g:Nat)(lb:Array Value)(eg: ∀args w,(callFunc g args).run Tryz.prog w= .ok (.enter g args) w)(p:Shp->Bool)(w:World)(hn:es.length=n)(hl:n<=1000)(hT:Shps w w.heap.size A es)
    (hp: ∀s W,s∈es->Below w.heap.size w W->Calls Tryz.prog g (#[s.val]++lb) W fun e w'=>e= .returned (.bool (p s))/\Below W.heap.size W w'):
    Calls Tryz.prog 135 #[.slice A n c, .func (.func g) #[] lb] w fun e w'=> ∃r,e= .returned (.int .i64 r)/\Below w.heap.size w w'/\(0<=r↔ ∃s∈es,p s=true):=by
  have HT:=Lib.hid hT;have HP:=Lib.hid hp;have HN:=Lib.hid hn;clear hT hp hn;go_enter Tryz.func135,Tryz.ntmps135;go_wp2;go_loopw [8] (fun v wr=> ∃k:Nat,k<=n/\v= .int .i64 k/\Hid (Below w.heap.size w wr)/\Hid (∀s∈es.take k,p s=false)) (fun v _=>n - (intOf v).toNat)
  case atStart=>exact⟨0,Nat.zero_le _,rfl,Lib.hid (Below.refl _ _),Lib.hid (fun s hs=>by simp at hs)⟩
  case round=>
    obtain⟨k,hk,rfl,HI,HF⟩:=hrel
    by_cases hlt:k<n
    · obtain⟨bk,off,t,l,m,d,pp,rfl,hbg,hek,d1,d2,d3,d4,d5⟩:=(HT.out.below HI.out).at_ (k:=k) (by rw[HN.out];exact hlt)
      have HEK:=Lib.hid hek;have hcall:=HP.out ⟨t,l,m,d,pp⟩ wr (List.mem_of_getElem? hek) HI.out
      unfold Shp.val at hcall;dsimp only at hcall;clear hek;cases hq:p ⟨t,l,m,d,pp⟩with
      | true =>
        have HQ:=Lib.hid hq;rw[hq]at hcall;clear hq
        go_wp2_with(go_at_fn g;refine hcall.mono ?_;rintro e w' ⟨rfl,hb'⟩)
        go_ret;exact⟨_,rfl,HI.out.trans (hb'.mono HI.out.size),⟨fun _=>⟨_,List.mem_of_getElem? HEK.out,HQ.out⟩,fun _=>by omega⟩⟩
      | false =>
        have HQ:=Lib.hid hq;rw[hq]at hcall;clear hq
        go_wp2_with(go_at_fn g;refine hcall.mono ?_;rintro e w' ⟨rfl,hb'⟩;have HB:=Lib.hid (HI.out.trans (hb'.mono HI.out.size));clear hb')
        go_roundw
        case rel=>exact⟨k+1,by omega,by go_num,HB,Lib.hid (fun s hs=>by
          rw[List.take_add_one,HEK.out]at hs;rcases List.mem_append.mp hs with h|h
          · exact HF.out s h
          · obtain rfl:s=⟨t,l,m,d,pp⟩:=by simpa using h
            exact HQ.out)⟩
        case measure=>simp[intOf];omega
    · have e:k=n:=by omega
      subst e;go_wp2;go_ret;refine⟨_,rfl,HI.out,⟨fun h=>absurd h (by decide),fun⟨s,hs,hps⟩=> ?_⟩⟩
      rw[HF.out s (by rw[List.take_of_length_le (by rw[HN.out];exact Nat.le_refl _)];exact hs)]at hps
      cases hps
theorem has_shape(A:Option Addr)(c n:Nat)(es:List Shp)(g:Nat)(lb:Array Value)(eg: ∀args w,(callFunc g args).run Tryz.prog w= .ok (.enter g args) w)(p:Shp->Bool)(w:World)(hn:es.length=n)(hl:n<=1000)(hT:Shps w w.heap.size A es)
    (hp: ∀s W,s∈es->Below w.heap.size w W->Calls Tryz.prog g (#[s.val]++lb) W fun e w'=>e= .returned (.bool (p s))/\Below W.heap.size W w')
    (r:Bool) (hr:r=true↔ ∃s∈es,p s=true):
    Calls Tryz.prog 102 #[.slice A n c, .func (.func g) #[] lb] w fun e w'=>e= .returned (.bool r)/\Below w.heap.size w w':=by
  have C:=idx_shape A c n es g lb eg p w hn hl hT hp;have HR:=Lib.hid hr;clear hT hp hn hr;go_enter Tryz.func102,Tryz.ntmps102;go_wp2_with fail;refine C.mono ?_
  rintro e w1 ⟨v,rfl,hI,hv⟩;have HI:=Lib.hid hI;have HV:=Lib.hid hv;clear hI hv;cases r with
  | true =>
    have hg:0<=v:=HV.out.mpr (HR.out.mp rfl);go_wp2;go_ret;exact⟨rfl,HI.out⟩
  | false =>
    have hg:decide (0<=v)=false:=by
      rw[decide_eq_false_iff_not];exact fun h=>absurd (HR.out.mpr (HV.out.mp h)) (by simp)
    go_wp2;go_ret
    exact⟨rfl,HI.out⟩
theorem esum_any(A:Option Addr)(c n:Nat)(es:List Shp)(g:Nat)(lb:Array Value)(eg: ∀args w,(callFunc g args).run Tryz.prog w= .ok (.enter g args) w)(f:Shp->Int)(w:World)(hn:es.length=n)(hl:n<=1000)(hT:Shps w w.heap.size A es)
  (hp: ∀s W,s∈es->Below w.heap.size w W->Calls Tryz.prog g (#[s.val]++lb) W fun e w'=>e= .returned (.int .i64 (f s))/\Below W.heap.size W w')
  (hb: ∀k,-4611686018427387904<=sumE f (es.take k)/\sumE f (es.take k)<=4611686018427387904):
  Calls Tryz.prog 83 #[.slice A n c,.func (.func g) #[] lb] w fun e w'=>e= .returned (.int .i64 (sumE f es))/\Below w.heap.size w w':=by
 have HT:=Lib.hid hT;have HP:=Lib.hid hp;have HN:=Lib.hid hn;have HS:=Lib.hid hb;have HE:=Lib.hid (show sumE f es=sumE f (es.take n) by rw[List.take_of_length_le (by omega)])
 clear hT hp hn hb;go_enter Tryz.func83,Tryz.ntmps83;go_wp2;go_loopw [5,10] (fun v i wr=> ∃(k:Nat) (x:Int),k<=n/\i= .int .i64 k/\v= .int .i64 x/\Hid (x=sumE f (es.take k))/\Hid (Below w.heap.size w wr)) (fun _ i _=>n - (intOf i).toNat)
 case atStart=>exact⟨0,0,Nat.zero_le _,rfl,rfl,Lib.hid rfl,Lib.hid (Below.refl _ _)⟩
 case round=>
  obtain⟨k,x,hk,rfl,rfl,HX,HI⟩:=hrel
  by_cases hlt:k<n
  ·obtain ⟨bk,off,t,l,m,d,pp,rfl,hbg,hek,d1,d2,d3,d4,d5⟩:=(HT.out.below HI.out).at_ (k:=k) (by rw [HN.out]; exact hlt)
   have HX2:=Lib.hid (show sumE f (es.take (k+1))=x+f ⟨t,l,m,d,pp⟩ by rw[HX.out];exact sumE_snoc hek)
   have hx1:=HS.out k;rw[<-HX.out]at hx1;have hx2:=HS.out (k+1);rw[HX2.out]at hx2;have HC:=Lib.hid (fun W (b:Below w.heap.size w W)=>HP.out ⟨t,l,m,d,pp⟩ W (List.mem_of_getElem? hek) b)
   unfold Shp.val at HC;dsimp only at HC;obtain⟨y,hy⟩: ∃y,y=f ⟨t,l,m,d,pp⟩:=⟨_,rfl⟩;rw[<-hy]at HC HX2 hx2;have HX3:=Lib.hid HX2.out.symm;have hb1:=Lib.hid (HI.out.trans ((below_alloc (w:=wr) (.cells #[.int .i64 t,.int .i64 l,.int .i64 m,.int .i64 d,.int .i64 pp] 44)).mono HI.out.size));clear hek hy HX2
   go_wp2_with(go_at_fn g;refine(HC.out _ hb1.out).mono ?_;rintro e w' ⟨rfl,hb'⟩;have HB:=Lib.hid (hb1.out.trans (hb'.mono hb1.out.size));clear hb')
   go_roundw
   case rel=>exact⟨k+1,x+y,by omega,by go_num,rfl,HX3,HB⟩
   case measure=>simp[intOf];omega
  ·have e: k = n:=by omega
   subst e;go_wp2;go_ret;exact⟨by rw[HE.out,<-HX.out];rfl,HI.out⟩
theorem egreat_any(A:Option Addr)(c n:Nat)(es:List Shp)(g:Nat)(lb:Array Value)(eg: ∀args w,(callFunc g args).run Tryz.prog w= .ok (.enter g args) w)(f:Shp->Int)(w:World)(hn:es.length=n)(hl:n<=1000)(hT:Shps w w.heap.size A es)
  (hp: ∀s W,s∈es->Below w.heap.size w W->Calls Tryz.prog g (#[s.val]++lb) W fun e w'=>e= .returned (.int .i64 (f s))/\Below W.heap.size W w'):
  Calls Tryz.prog 85 #[.slice A n c,.func (.func g) #[] lb] w fun e w'=>e= .returned (.int .i64 (maxE f es))/\Below w.heap.size w w':=by
 have HT:=Lib.hid hT;have HP:=Lib.hid hp;have HN:=Lib.hid hn;have HE:=Lib.hid (show maxE f es=maxE f (es.take n) by rw[List.take_of_length_le (by omega)])
 clear hT hp hn;go_enter Tryz.func85,Tryz.ntmps85;go_wp2;go_loopw [5,10] (fun v i wr=> ∃(k:Nat) (x:Int),k<=n/\i= .int .i64 k/\v= .int .i64 x/\Hid (x=maxE f (es.take k))/\Hid (Below w.heap.size w wr)) (fun _ i _=>n - (intOf i).toNat)
 case atStart=>exact⟨0,0,Nat.zero_le _,rfl,rfl,Lib.hid rfl,Lib.hid (Below.refl _ _)⟩
 case round=>
  obtain⟨k,x,hk,rfl,rfl,HX,HI⟩:=hrel
  by_cases hlt:k<n
  ·obtain ⟨bk,off,t,l,m,d,pp,rfl,hbg,hek,d1,d2,d3,d4,d5⟩:=(HT.out.below HI.out).at_ (k:=k) (by rw [HN.out]; exact hlt)
   have HX2:=Lib.hid (show maxE f (es.take (k+1))=max x (f ⟨t,l,m,d,pp⟩) by rw[HX.out];exact maxE_snoc hek)
   have HC:=Lib.hid (fun W (b:Below w.heap.size w W)=>HP.out ⟨t,l,m,d,pp⟩ W (List.mem_of_getElem? hek) b)
   unfold Shp.val at HC;dsimp only at HC;obtain⟨y,hy⟩: ∃y,y=f ⟨t,l,m,d,pp⟩:=⟨_,rfl⟩;rw[<-hy]at HC HX2;have hb1:=Lib.hid (HI.out.trans ((below_alloc (w:=wr) (.cells #[.int .i64 t,.int .i64 l,.int .i64 m,.int .i64 d,.int .i64 pp] 44)).mono HI.out.size));clear hek hy
   by_cases hxy:x<y
   ·have HX3:=Lib.hid (show y = maxE f (es.take (k + 1)) by rw [HX2.out]; omega)
    clear HX2
    go_wp2_with(go_at_fn g;refine(HC.out _ hb1.out).mono ?_;rintro e w' ⟨rfl,hb'⟩;have HB:=Lib.hid (hb1.out.trans (hb'.mono hb1.out.size));clear hb')
    go_roundw
    case rel=>exact⟨k+1,y,by omega,by go_num,by first|rfl|(simp;omega),HX3,HB⟩
    case measure=>simp[intOf];omega
   ·have HX3:=Lib.hid (show x = maxE f (es.take (k + 1)) by rw [HX2.out]; omega)
    clear HX2
    go_wp2_with(go_at_fn g;refine(HC.out _ hb1.out).mono ?_;rintro e w' ⟨rfl,hb'⟩;have HB:=Lib.hid (hb1.out.trans (hb'.mono hb1.out.size));clear hb')
    go_roundw
    case rel=>exact⟨k+1,x,by omega,by go_num,by first|rfl|(simp;omega),HX3,HB⟩
    case measure=>simp[intOf];omega
  ·have e: k = n:=by omega
   subst e;go_wp2;go_ret;exact⟨by rw[HE.out,<-HX.out];rfl,HI.out⟩
end Go.Proofs.YtlfekmbalgkmeaaGreatDoor
namespace Go.Proofs.YtlfekmbalgkmeaaGreatDoor
open Go.RowKit
theorem check_any(n:Int)(w:World):Calls Tryz.prog 132 #[.int .i64 n] w fun e w'=>e= .returned (.int .i64 (chk n))/\w=w':=by
 by_cases h1:n<0
 ·rw [chk_low h1]
  go_enter Tryz.func132,Tryz.ntmps132;go_wp2;go_ret;exact⟨rfl,rfl⟩
 ·by_cases h2: 1099511627775 < n
  ·rw [chk_high h2]
   go_enter Tryz.func132,Tryz.ntmps132;go_wp2;go_ret;exact⟨rfl,rfl⟩
  ·rw [chk_ok (by omega) (by omega)]
   go_enter Tryz.func132,Tryz.ntmps132;go_wp2;go_ret;exact⟨rfl,rfl⟩
end Go.Proofs.YtlfekmbalgkmeaaGreatDoor
