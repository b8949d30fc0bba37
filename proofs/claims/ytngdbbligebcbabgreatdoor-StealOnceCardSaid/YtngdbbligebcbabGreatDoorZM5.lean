import Derived.Test.YtngdbbligebcbabGreatDoorZM4
import Derived.ArgAppend
import Derived.OwnWalk
import Derived.Orders
import Derived.WalkKit
import Derived.KernelRfl
import Derived.WalkSmall
import Derived.Handy
import Derived.Below
import Derived.BigQuiet
import Derived.Deep.QuietTactic
import Derived.Lib.Hide
set_option linter.unusedVariables false
set_option maxHeartbeats 2000000
namespace Go.Proofs.YtngdbbligebcbabGreatDoor
open Go.RowKit
def flatE(es:List (Int×Int)):List Value:=es.flatMap fun e=> [.int .i64 e.1,.int .i64 e.2]
theorem flatE_length(es:List (Int×Int)):(flatE es).length=es.length * 2:=by
  induction es with
  |nil=>rfl
  | cons e es ih =>
    rw[show flatE (e::es)= .int .i64 e.1:: .int .i64 e.2::flatE es from rfl,List.length_cons,List.length_cons,List.length_cons,ih]
    omega
theorem flatE_at: ∀{es:List (Int×Int)} {k:Nat} {e:Int×Int},es[k]? =some e->(flatE es)[k * 2]? =some (.int .i64 e.1)/\(flatE es)[k * 2+1]? =some (.int .i64 e.2)
  | [],k,e,h=>by simp at h
  | x :: es, 0, e, h => by
    obtain rfl:x=e:=by simpa using h
    exact⟨rfl,rfl⟩
  | x :: es, k + 1, e, h => by
    have ih:=flatE_at (es:=es) (k:=k) (e:=e) (by simpa using h)
    have e1:flatE (x::es)= .int .i64 x.1:: .int .i64 x.2::flatE es:=rfl;rw[e1,show(k+1) * 2=k * 2+1+1 by omega]
    simp only[List.getElem?_cons_succ]
    exact ih
theorem flatE_cell{es:List (Int×Int)}{j:Nat}{u:Value}(h:(flatE es)[j]? =some u): ∃e,es[j/2]? =some e/\((j%2=0/\u= .int .i64 e.1)\/(j%2=1/\u= .int .i64 e.2)):=by
 have hj:j<es.length * 2:=by
  rw[<-flatE_length];rcases Nat.lt_or_ge j (flatE es).length with h1|h1
  ·exact h1
  ·rw[List.getElem?_eq_none h1]at h;cases h
 have hk:es[j/2]? =some es[j/2]:=List.getElem?_eq_getElem (by omega)
 refine⟨_,hk,?_⟩
 obtain⟨h1,h2⟩:=flatE_at hk;rcases Nat.mod_two_eq_zero_or_one j with h0|h0
 ·rw [show j / 2 * 2 = j by omega,h] at h1
  exact .inl ⟨h0,Option.some.inj h1⟩
 ·rw [show j / 2 * 2 + 1 = j by omega,h] at h2
  exact .inr ⟨h0,Option.some.inj h2⟩
theorem flatE_one(es:List (Int×Int)): ∀u∈flatE es,u.oneCell'=true:=by
 intro u hu;unfold flatE at hu;obtain⟨e,_,h⟩:=List.mem_flatMap.mp hu;rcases(by simpa using h:u= .int .i64 e.1\/u= .int .i64 e.2)with rfl|rfl<;>rfl
theorem Pairs.news{w:World}{B:Nat}{ad:Addr}{es:List (Int×Int)}(h:Pairs w B (some ad) es): ∀j u,(flatE es)[j]? =some u->w.cell? (ad.add j)=some u:=by
 intro j u hu;obtain⟨e,he,hu2⟩:=flatE_cell hu;have hl:0<es.length:=by
  cases es with
  |nil=>simp at he
  |cons _ _=>simp
 obtain⟨b,off,hA,_,hc⟩:=h hl;injection hA with hA;subst hA;rw[addr_add];obtain⟨c1,c2⟩:=hc _ _ he;rcases hu2 with⟨h0,rfl⟩|⟨h0,rfl⟩
 ·rw [show off + j = off + j / 2 * 2 by omega]
  exact c1
 ·rw [show off + j = off + j / 2 * 2 + 1 by omega]
  exact c2
def OwnE(w:World)(base:Nat)(v:Value)(es:List (Int×Int)):Prop:=w.ownsRow base 163 2 v es.length (flatE es)
theorem own_below{w w':World}{base:Nat}{e:TypeId}{s n:Nat}{v:Value}{xs:List Value}(h:w.ownsRow base e s v n xs)(hb:Below w.heap.size w w'):w'.ownsRow base e s v n xs:=by
 refine⟨h.1,?_⟩
 rcases h.2 with hn|⟨g,cap,cur,rfl,hg,hgg,rest⟩
 ·exact .inl hn
 ·exact .inr ⟨g,cap,cur,rfl,hg,by rw[hb.block g (Array.getElem?_eq_some_iff.1 hgg).1];exact hgg,rest⟩
theorem OwnE.below{w w':World}{base:Nat}{v:Value}{es:List (Int×Int)}(h:OwnE w base v es)(hb:Below w.heap.size w w'):OwnE w' base v es:=own_below h hb
theorem own_less{w:World}{base base':Nat}{e:TypeId}{s n:Nat}{v:Value}{xs:List Value}(h:w.ownsRow base e s v n xs)(hb:base'<=base):w.ownsRow base' e s v n xs:=by
 refine⟨h.1,?_⟩
 rcases h.2 with hn|⟨g,cap,cur,rfl,hg,rest⟩
 ·exact .inl hn
 ·exact .inr ⟨g,cap,cur,rfl,by omega,rest⟩
theorem OwnE.slice{w:World}{base:Nat}{v:Value}{es:List (Int×Int)}(h:OwnE w base v es): ∃A c,v= .slice A es.length c/\Pairs w w.heap.size A es:=by
 rcases h.2 with⟨rfl,hn⟩|⟨g,cap,cur,rfl,hg,hgg,hnc,hcm,hcs,htake⟩
 ·have: es = []:=List.eq_nil_of_length_eq_zero hn
  subst this;exact⟨none,0,rfl,fun h0=>absurd h0 (by simp)⟩
 ·refine ⟨some ⟨g,0,none⟩,cap,rfl,fun _ => ⟨g,0,rfl,(Array.getElem?_eq_some_iff.1 hgg).1,fun k e he => ?_⟩⟩
  obtain⟨h1,h2⟩:=flatE_at he;have h':w.ownsRow base 163 2 (.slice (some ⟨g,0,none⟩) es.length cap) es.length (flatE es):=h;have c1:=h'.cells (g:=g) rfl _ _ h1;have c2:=h'.cells (g:=g) rfl _ _ h2;rw[addr_add]at c1 c2;rw[show 0+(k * 2+1)=0+k * 2+1 by omega]at c2
  exact⟨c1,c2⟩
theorem edge_cell_info:(Tryz.prog.info? 163).map (fun i=>(i.zero,i.size,i.bytes))=some (some (.agg #[.int .i64 0,.int .i64 0]),2,16):=by kernel_rfl
theorem fresh_append{P:Program}(w:World)(t ty e:TypeId)(i:TypeInfo)(z:Value)(size bytes:Nat)(ht:P.underlying t=some (.slice e))(hi:P.info? e=some i)(hz:i.zero=some z)
    (hsize:i.size=size) (hby:i.bytes=bytes) (hzs:z.cells.size=size) (hsz:0<size) (base g:Nat) (hg:w.heap[g]? =some (.cells #[] e (0,0))) (hbg:base<=g) (hbw:base<=w.heap.size)
    (A:Option Addr) (len c:Nat) (news:List Value) (hl:news.length=len * size) (hA:A=none->len=0/\c=0) (hnews: ∀ad,A=some ad-> ∀j u,news[j]? =some u->w.cell? (ad.add j)=some u) (h1: ∀u∈news,u.oneCell'=true)
    (h63:len<=maxLen) (hbytes:len * bytes<=140737488355328):
    ∃v' w',(Builtin.append_ #[t,t] ty #[.slice (some ⟨g,0,none⟩) 0 0, .slice A len c]).run P w= .ok v' w'/\w'.ownsRow base e size v' len news/\Below w.heap.size w w':=by
  have hown:w.ownsRow base e size (.slice (some ⟨g,0,none⟩) 0 0) 0 []:=⟨by simp, .inr ⟨g,0, #[],rfl,hbg,hg,Nat.le_refl _,by simp[maxLen],by simp,by simp⟩⟩
  cases A with
  | none =>
    obtain⟨rfl,rfl⟩:=hA rfl;obtain rfl:news= []:=List.eq_nil_of_length_eq_zero (by simpa using hl)
    exact⟨_,w,run_append_owned_none w base t ty e i size ht hi _ 0 [] hown,hown,Below.refl _ _⟩
  | some ad =>
    rcases Nat.eq_zero_or_pos len with h0|h0
    · subst h0;obtain rfl:news= []:=List.eq_nil_of_length_eq_zero (by simpa using hl)
      have hr:=run_append_room (P:=P) w t ty e i ht hi g 0 0 #[] hg ad 0 c [] (by simp) (fun j u h=>by simp at h) (fun u h=>by simp at h) (by omega) (by simp)
      refine⟨_,_,hr,?_,?_⟩
      · exact⟨by simp, .inr ⟨g,0,_,rfl,hbg,setRow_heap w g _ _ e _ hg,Nat.le_refl _,by simp[maxLen],by simp,by simp⟩⟩
      · refine⟨rfl,rfl,rfl,by simp,fun k _=> ?_⟩
        by_cases hk:k=g
        · subst hk;rw[setRow_heap w k _ _ e _ hg,hg];simp
        · exact setRow_other w g k _ hk
    · obtain⟨v',w',hr,ho,hgr⟩:=run_append_arg_grows (P:=P) w t ty e i z size bytes ht hi hz hsize hby hzs hsz ⟨g,0,none⟩ 0 0 [] (by simp) (fun j u h=>by simp at h) ad len c news hl (hnews ad rfl) (by omega) (by omega) (by simpa using hbytes)
      rw[Nat.zero_add,List.nil_append]at ho;exact⟨v',w',hr,own_less ho hbw,⟨hgr.os,hgr.tape,hgr.output,hgr.size,fun k hk=>hgr.block k hk (by simp)⟩⟩
end Go.Proofs.YtngdbbligebcbabGreatDoor
namespace Go.Proofs.YtngdbbligebcbabGreatDoor
open Go
section
variable {P: Program} {ops: Array Oper} {Q: Exit -> Act -> World -> Prop}
def unlisted(l:Array Bool):Nat:=l.toList.countP (fun b=> !b)
theorem countP_set: ∀(xs:List Bool) (i:Nat),xs[i]? =some false->(xs.set i true).countP (fun b=> !b)+1=xs.countP (fun b=> !b)
  | [],i,h=>by simp at h
  | x :: xs, 0, h => by
    obtain rfl:x=false:=by simpa using h
    simp
  | x :: xs, i + 1, h => by
    have ih:=countP_set xs i (by simpa using h)
    simp only[List.set_cons_succ,List.countP_cons];omega
theorem unlisted_set{l:Array Bool}{i:Nat}(h:l.getD i true=false):unlisted (l.setIfInBounds i true)+1=unlisted l:=by
 have hi:i<l.size:=by
  rcases Nat.lt_or_ge i l.size with h1|h1
  ·exact h1
  ·simp[Array.getElem?_eq_none h1]at h
 have h0:l[i]=false:=by simpa[hi]using h
 unfold unlisted;rw[Array.toList_setIfInBounds];refine countP_set l.toList i ?_
 rw[Array.getElem?_toList,Array.getElem?_eq_getElem hi,h0]
theorem wpAny_inv(Inv:Array Bool->Act->World->Prop)
    (hstep: ∀(listed:Array Bool) (a:Act) (w:World) (i:Nat),Inv listed a w->i∈Region.ready .any ops listed->wpOp P ops Q i (Inv (listed.setIfInBounds i true)) a w)
    (hend: ∀(listed:Array Bool) (a:Act) (w:World),Inv listed a w->Region.ready .any ops listed= []->Q .normal a w):
    ∀(fuel:Nat) (listed:Array Bool) (a:Act) (w:World),unlisted listed<=fuel->Inv listed a w->wpAny P .any ops Q fuel listed a w
  | 0, listed, a, w, hf, hI => by
    have hr:Region.ready .any ops listed= []:=by
      rw[List.eq_nil_iff_forall_not_mem];intro i hi;have:=unlisted_set (mem_ready.1 hi).1;omega
    exact⟨hr,hend _ _ _ hI hr⟩
  | fuel + 1, listed, a, w, hf, hI =>
    ⟨fun hr=>hend _ _ _ hI hr,fun i hi=>wpOp_mono (fun a' w' hI'=>wpAny_inv Inv hstep hend fuel _ a' w' (by have:=unlisted_set (mem_ready.1 hi).1;omega) hI') (hstep _ _ _ _ hI hi)⟩
theorem wp_region_inv{id:Nat}{a:Act}{w:World}(Inv:Array Bool->Act->World->Prop)(hm:P.follows .mixedOrders=true)
  (h0:Inv (Array.replicate ops.size false) a {w with drawn:=w.drawn+1})
  (hstep: ∀(listed:Array Bool) (a:Act) (w:World) (i:Nat),Inv listed a w->i∈Region.ready .any ops listed->wpOp P ops Q i (Inv (listed.setIfInBounds i true)) a w)
  (hend: ∀(listed:Array Bool) (a:Act) (w:World),Inv listed a w->Region.ready .any ops listed= []->Q .normal a w):(Code.region id ops true).wp P Q a w:=
 wp_region_any hm (wpAny_inv Inv hstep hend _ _ _ _ (by
  unfold unlisted;refine Nat.le_trans List.countP_le_length ?_
  simp) h0)
theorem all_listed{listed:Array Bool}(hs:listed.size=ops.size)(hb: ∀(i:Nat) (o:Oper),ops[i]? =some o-> ∀e∈o.after,e.on<i)(hr:Region.ready .any ops listed= []): ∀i,i<ops.size->listed.getD i false=true:=by
  intro i
  induction i using Nat.strongRecOn with
  | _ i ih =>
    intro hi;cases hl:listed.getD i false with
    |true=>rfl
    | false =>
      have hi2:i<listed.size:=by omega
      have h1:listed.getD i true=false:=by
        simp[hi2]at hl⊢;exact hl
      have h2:i∈Region.ready .any ops listed:=mem_ready.2 ⟨h1,ops[i],Array.getElem?_eq_getElem hi,fun e he _=>by
        have h3:=hb i _ (Array.getElem?_eq_getElem hi) e he
        exact ih e.on h3 (by omega)⟩
      rw[hr]at h2;simp at h2
def backB(ops:Array Oper):Bool:=(List.range ops.size).all fun i=>match ops[i]? with
 |some o=>o.after.all fun e=>decide (e.on<i)
 |none=>true
theorem back_of(h:backB ops=true): ∀(i:Nat) (o:Oper),ops[i]? =some o-> ∀e∈o.after,e.on<i:=by
 intro i o ho e he;have hi:i<ops.size:=by
  rcases Nat.lt_or_ge i ops.size with h1|h1
  ·exact h1
  ·rw[Array.getElem?_eq_none h1]at ho;cases ho
 have h1:=List.all_eq_true.1 h i (List.mem_range.2 hi);rw[ho]at h1;exact of_decide_eq_true (Array.all_eq_true'.1 h1 e he)
theorem listed_set{listed:Array Bool}{i k:Nat}(h:(listed.setIfInBounds i true).getD k false=true):k=i\/listed.getD k false=true:=by
 by_cases hik:i=k
 ·exact .inl hik.symm
 ·right
  simp[Array.getElem?_setIfInBounds_ne hik]at h
  simpa using h
theorem wpOp_at{i:Nat}{o:Oper}{a:Act}{w:World}{K:Act->World->Prop}(ho:ops[i]? =some o)(hg:o.guard=none)(h:o.wp P a w K Q):wpOp P ops Q i K a w:=by
 unfold wpOp;rw[ho];simp only[Region.wanted,hg,if_true];exact .inl h
theorem wp_append_run{o:Oper}{a:Act}{w w':World}{K:Act->World->Prop}{s x:Operand}{t:TypeId}{vs vx v:Value}(hop:o.op= .call {callee:=.builtin .append,args:=#[s,x],argTypes:=#[t,t]})
  (hs:a.eval s=vs) (hx:a.eval x=vx) (hr:(Builtin.append_ #[t,t] o.type #[vs,vx]).run P w= .ok v w') (hK:K (a.put o.dst v) w'):o.wp P a w K Q:=by
 unfold Oper.wp;simp[execOp,hop,resolve,invoke,builtin,hs,hx,hr,Result.andThen];exact hK
end
end Go.Proofs.YtngdbbligebcbabGreatDoor
namespace Go.Proofs.YtngdbbligebcbabGreatDoor
open Go.RowKit
def GotGr(W:List Int)(E:List (Int×Int))(w:World)(e:Ending)(w':World):Prop:=
 ∃u v,e= .returned (.agg #[u,v])/\OwnI w' w.heap.size u W/\OwnE w' w.heap.size v E/\Below w.heap.size w w'
structure InvO(w0:World)(A F:Option Addr)(n c m d:Nat)(W:List Int)(E:List (Int×Int))(s3 s4 s5 s6 s7 s8 s9 s10 s11:Value)(l:Array Bool)(w:World):Prop where
 size:l.size=10
 bel:Below (w0.heap.size+1) (w0.alloc (.cells #[.slice A n c,.slice F m d] 25)) w
 cell: ∃x y,w.heap[w0.heap.size+1]? =some (.cells #[x,y] 25 (0,0))/\(l.getD 9 false=true->x=s6/\y=s10)
 c8:l.getD 8 false=true->l.getD 3 false=true/\l.getD 7 false=true
 c9:l.getD 9 false=true->l.getD 3 false=true/\l.getD 7 false=true
 l0:l.getD 0 false=true-> ∃g,s3= .slice (some ⟨g,0,none⟩) 0 0/\w.heap[g]? =some (.cells #[] 3 (0,0))/\w0.heap.size+2<=g
 l1:l.getD 1 false=true->s4= .pointer (some ⟨w0.heap.size,0,none⟩)
 l2:l.getD 2 false=true->s5= .slice A n c
 l3:l.getD 3 false=true->OwnI w (w0.heap.size+2) s6 W
 l4:l.getD 4 false=true-> ∃g,s7= .slice (some ⟨g,0,none⟩) 0 0/\w.heap[g]? =some (.cells #[] 163 (0,0))/\w0.heap.size+2<=g
 l5:l.getD 5 false=true->s8= .pointer (some ⟨w0.heap.size,1,none⟩)
 l6:l.getD 6 false=true->s9= .slice F m d
 l7:l.getD 7 false=true->OwnE w (w0.heap.size+2) s10 E
 l8:l.getD 8 false=true->s11= .agg #[s6,s10]
theorem listed_keep{l:Array Bool}{i k:Nat}(h:l.getD k false=true):(l.setIfInBounds i true).getD k false=true:=getD_set_true h
theorem un_false{l:Array Bool}{i:Nat}(h:l.getD i true=false)(k:l.getD i false=true):False:=by
 rcases Nat.lt_or_ge i l.size with h'|h'
 ·simp[h']at h k;rw[h]at k;cases k
 ·simp[Array.getElem?_eq_none h']at k
section
variable {w0: World} {A F: Option Addr} {n c m d: Nat} {W: List Int} {E: List (Int × Int)} {s3 s4 s5 s6 s7 s8 s9 s10 s11: Value} {l: Array Bool} {w w': World}
theorem InvO.lt(h:InvO w0 A F n c m d W E s3 s4 s5 s6 s7 s8 s9 s10 s11 l w):w0.heap.size+2<=w.heap.size:=by
 obtain⟨x,y,hc,_⟩:=h.cell;have:=(Array.getElem?_eq_some_iff.1 hc).1
 omega
theorem InvO.mono(h:InvO w0 A F n c m d W E s3 s4 s5 s6 s7 s8 s9 s10 s11 l w)(hb:Below w.heap.size w w'):InvO w0 A F n c m d W E s3 s4 s5 s6 s7 s8 s9 s10 s11 l w':=by
 have hlt:=h.lt;refine{h with bel:=h.bel.trans (hb.mono (by omega)),cell:=?_,l0:=?_,l3:=fun hk=>(h.l3 hk).below hb,l4:=?_,l7:=fun hk=>(h.l7 hk).below hb}
 ·obtain ⟨x,y,hc,hh⟩:=h.cell
  exact⟨x,y,by rw[hb.block _ (by omega)];exact hc,hh⟩
 ·intro hk
  obtain⟨g,e,hg,hl⟩:=h.l0 hk;exact⟨g,e,by rw[hb.block _ (Array.getElem?_eq_some_iff.1 hg).1];exact hg,hl⟩
 ·intro hk
  obtain⟨g,e,hg,hl⟩:=h.l4 hk;exact⟨g,e,by rw[hb.block _ (Array.getElem?_eq_some_iff.1 hg).1];exact hg,hl⟩
theorem InvO.step0(h:InvO w0 A F n c m d W E s3 s4 s5 s6 s7 s8 s9 s10 s11 l w)(hun:l.getD 0 true=false){z:Value}(hz: ∃g,z= .slice (some ⟨g,0,none⟩) 0 0/\w.heap[g]? =some (.cells #[] 3 (0,0))/\w0.heap.size+2<=g):InvO w0 A F n c m d W E z s4 s5 s6 s7 s8 s9 s10 s11 (l.setIfInBounds 0 true) w where
 size:=by rw[Array.size_setIfInBounds];exact h.size
 bel:=h.bel
 cell:=by
  obtain⟨x,y,hc,hh⟩:=h.cell;exact⟨x,y,hc,fun hk=>hh ((listed_set hk).resolve_left (by decide))⟩
 c8:=fun hk=>⟨listed_keep (h.c8 ((listed_set hk).resolve_left (by decide))).1,listed_keep (h.c8 ((listed_set hk).resolve_left (by decide))).2⟩
 c9:=fun hk=>⟨listed_keep (h.c9 ((listed_set hk).resolve_left (by decide))).1,listed_keep (h.c9 ((listed_set hk).resolve_left (by decide))).2⟩
 l0:=fun _=>hz
 l1:=fun hk=>h.l1 ((listed_set hk).resolve_left (by decide))
 l2:=fun hk=>h.l2 ((listed_set hk).resolve_left (by decide))
 l3:=fun hk=>h.l3 ((listed_set hk).resolve_left (by decide))
 l4:=fun hk=>h.l4 ((listed_set hk).resolve_left (by decide))
 l5:=fun hk=>h.l5 ((listed_set hk).resolve_left (by decide))
 l6:=fun hk=>h.l6 ((listed_set hk).resolve_left (by decide))
 l7:=fun hk=>h.l7 ((listed_set hk).resolve_left (by decide))
 l8:=fun hk=>h.l8 ((listed_set hk).resolve_left (by decide))
theorem InvO.step1(h:InvO w0 A F n c m d W E s3 s4 s5 s6 s7 s8 s9 s10 s11 l w)(hun:l.getD 1 true=false){z:Value}(hz:z= .pointer (some ⟨w0.heap.size,0,none⟩)):InvO w0 A F n c m d W E s3 z s5 s6 s7 s8 s9 s10 s11 (l.setIfInBounds 1 true) w where
 size:=by rw[Array.size_setIfInBounds];exact h.size
 bel:=h.bel
 cell:=by
  obtain⟨x,y,hc,hh⟩:=h.cell;exact⟨x,y,hc,fun hk=>hh ((listed_set hk).resolve_left (by decide))⟩
 c8:=fun hk=>⟨listed_keep (h.c8 ((listed_set hk).resolve_left (by decide))).1,listed_keep (h.c8 ((listed_set hk).resolve_left (by decide))).2⟩
 c9:=fun hk=>⟨listed_keep (h.c9 ((listed_set hk).resolve_left (by decide))).1,listed_keep (h.c9 ((listed_set hk).resolve_left (by decide))).2⟩
 l0:=fun hk=>h.l0 ((listed_set hk).resolve_left (by decide))
 l1:=fun _=>hz
 l2:=fun hk=>h.l2 ((listed_set hk).resolve_left (by decide))
 l3:=fun hk=>h.l3 ((listed_set hk).resolve_left (by decide))
 l4:=fun hk=>h.l4 ((listed_set hk).resolve_left (by decide))
 l5:=fun hk=>h.l5 ((listed_set hk).resolve_left (by decide))
 l6:=fun hk=>h.l6 ((listed_set hk).resolve_left (by decide))
 l7:=fun hk=>h.l7 ((listed_set hk).resolve_left (by decide))
 l8:=fun hk=>h.l8 ((listed_set hk).resolve_left (by decide))
theorem InvO.step2(h:InvO w0 A F n c m d W E s3 s4 s5 s6 s7 s8 s9 s10 s11 l w)(hun:l.getD 2 true=false){z:Value}(hz:z= .slice A n c):InvO w0 A F n c m d W E s3 s4 z s6 s7 s8 s9 s10 s11 (l.setIfInBounds 2 true) w where
 size:=by rw[Array.size_setIfInBounds];exact h.size
 bel:=h.bel
 cell:=by
  obtain⟨x,y,hc,hh⟩:=h.cell;exact⟨x,y,hc,fun hk=>hh ((listed_set hk).resolve_left (by decide))⟩
 c8:=fun hk=>⟨listed_keep (h.c8 ((listed_set hk).resolve_left (by decide))).1,listed_keep (h.c8 ((listed_set hk).resolve_left (by decide))).2⟩
 c9:=fun hk=>⟨listed_keep (h.c9 ((listed_set hk).resolve_left (by decide))).1,listed_keep (h.c9 ((listed_set hk).resolve_left (by decide))).2⟩
 l0:=fun hk=>h.l0 ((listed_set hk).resolve_left (by decide))
 l1:=fun hk=>h.l1 ((listed_set hk).resolve_left (by decide))
 l2:=fun _=>hz
 l3:=fun hk=>h.l3 ((listed_set hk).resolve_left (by decide))
 l4:=fun hk=>h.l4 ((listed_set hk).resolve_left (by decide))
 l5:=fun hk=>h.l5 ((listed_set hk).resolve_left (by decide))
 l6:=fun hk=>h.l6 ((listed_set hk).resolve_left (by decide))
 l7:=fun hk=>h.l7 ((listed_set hk).resolve_left (by decide))
 l8:=fun hk=>h.l8 ((listed_set hk).resolve_left (by decide))
theorem InvO.step3(h:InvO w0 A F n c m d W E s3 s4 s5 s6 s7 s8 s9 s10 s11 l w)(hun:l.getD 3 true=false){z:Value}(hz:OwnI w (w0.heap.size+2) z W):InvO w0 A F n c m d W E s3 s4 s5 z s7 s8 s9 s10 s11 (l.setIfInBounds 3 true) w where
 size:=by rw[Array.size_setIfInBounds];exact h.size
 bel:=h.bel
 cell:=by
  obtain⟨x,y,hc,hh⟩:=h.cell;exact⟨x,y,hc,fun hk=>(un_false hun (h.c9 ((listed_set hk).resolve_left (by decide))).1).elim⟩
 c8:=fun hk=>⟨listed_keep (h.c8 ((listed_set hk).resolve_left (by decide))).1,listed_keep (h.c8 ((listed_set hk).resolve_left (by decide))).2⟩
 c9:=fun hk=>⟨listed_keep (h.c9 ((listed_set hk).resolve_left (by decide))).1,listed_keep (h.c9 ((listed_set hk).resolve_left (by decide))).2⟩
 l0:=fun hk=>h.l0 ((listed_set hk).resolve_left (by decide))
 l1:=fun hk=>h.l1 ((listed_set hk).resolve_left (by decide))
 l2:=fun hk=>h.l2 ((listed_set hk).resolve_left (by decide))
 l3:=fun _=>hz
 l4:=fun hk=>h.l4 ((listed_set hk).resolve_left (by decide))
 l5:=fun hk=>h.l5 ((listed_set hk).resolve_left (by decide))
 l6:=fun hk=>h.l6 ((listed_set hk).resolve_left (by decide))
 l7:=fun hk=>h.l7 ((listed_set hk).resolve_left (by decide))
 l8:=fun hk=>(un_false hun (h.c8 ((listed_set hk).resolve_left (by decide))).1).elim
theorem InvO.step4(h:InvO w0 A F n c m d W E s3 s4 s5 s6 s7 s8 s9 s10 s11 l w)(hun:l.getD 4 true=false){z:Value}(hz: ∃g,z= .slice (some ⟨g,0,none⟩) 0 0/\w.heap[g]? =some (.cells #[] 163 (0,0))/\w0.heap.size+2<=g):InvO w0 A F n c m d W E s3 s4 s5 s6 z s8 s9 s10 s11 (l.setIfInBounds 4 true) w where
 size:=by rw[Array.size_setIfInBounds];exact h.size
 bel:=h.bel
 cell:=by
  obtain⟨x,y,hc,hh⟩:=h.cell;exact⟨x,y,hc,fun hk=>hh ((listed_set hk).resolve_left (by decide))⟩
 c8:=fun hk=>⟨listed_keep (h.c8 ((listed_set hk).resolve_left (by decide))).1,listed_keep (h.c8 ((listed_set hk).resolve_left (by decide))).2⟩
 c9:=fun hk=>⟨listed_keep (h.c9 ((listed_set hk).resolve_left (by decide))).1,listed_keep (h.c9 ((listed_set hk).resolve_left (by decide))).2⟩
 l0:=fun hk=>h.l0 ((listed_set hk).resolve_left (by decide))
 l1:=fun hk=>h.l1 ((listed_set hk).resolve_left (by decide))
 l2:=fun hk=>h.l2 ((listed_set hk).resolve_left (by decide))
 l3:=fun hk=>h.l3 ((listed_set hk).resolve_left (by decide))
 l4:=fun _=>hz
 l5:=fun hk=>h.l5 ((listed_set hk).resolve_left (by decide))
 l6:=fun hk=>h.l6 ((listed_set hk).resolve_left (by decide))
 l7:=fun hk=>h.l7 ((listed_set hk).resolve_left (by decide))
 l8:=fun hk=>h.l8 ((listed_set hk).resolve_left (by decide))
theorem InvO.step5(h:InvO w0 A F n c m d W E s3 s4 s5 s6 s7 s8 s9 s10 s11 l w)(hun:l.getD 5 true=false){z:Value}(hz:z= .pointer (some ⟨w0.heap.size,1,none⟩)):InvO w0 A F n c m d W E s3 s4 s5 s6 s7 z s9 s10 s11 (l.setIfInBounds 5 true) w where
 size:=by rw[Array.size_setIfInBounds];exact h.size
 bel:=h.bel
 cell:=by
  obtain⟨x,y,hc,hh⟩:=h.cell;exact⟨x,y,hc,fun hk=>hh ((listed_set hk).resolve_left (by decide))⟩
 c8:=fun hk=>⟨listed_keep (h.c8 ((listed_set hk).resolve_left (by decide))).1,listed_keep (h.c8 ((listed_set hk).resolve_left (by decide))).2⟩
 c9:=fun hk=>⟨listed_keep (h.c9 ((listed_set hk).resolve_left (by decide))).1,listed_keep (h.c9 ((listed_set hk).resolve_left (by decide))).2⟩
 l0:=fun hk=>h.l0 ((listed_set hk).resolve_left (by decide))
 l1:=fun hk=>h.l1 ((listed_set hk).resolve_left (by decide))
 l2:=fun hk=>h.l2 ((listed_set hk).resolve_left (by decide))
 l3:=fun hk=>h.l3 ((listed_set hk).resolve_left (by decide))
 l4:=fun hk=>h.l4 ((listed_set hk).resolve_left (by decide))
 l5:=fun _=>hz
 l6:=fun hk=>h.l6 ((listed_set hk).resolve_left (by decide))
 l7:=fun hk=>h.l7 ((listed_set hk).resolve_left (by decide))
 l8:=fun hk=>h.l8 ((listed_set hk).resolve_left (by decide))
theorem InvO.step6(h:InvO w0 A F n c m d W E s3 s4 s5 s6 s7 s8 s9 s10 s11 l w)(hun:l.getD 6 true=false){z:Value}(hz:z= .slice F m d):InvO w0 A F n c m d W E s3 s4 s5 s6 s7 s8 z s10 s11 (l.setIfInBounds 6 true) w where
 size:=by rw[Array.size_setIfInBounds];exact h.size
 bel:=h.bel
 cell:=by
  obtain⟨x,y,hc,hh⟩:=h.cell;exact⟨x,y,hc,fun hk=>hh ((listed_set hk).resolve_left (by decide))⟩
 c8:=fun hk=>⟨listed_keep (h.c8 ((listed_set hk).resolve_left (by decide))).1,listed_keep (h.c8 ((listed_set hk).resolve_left (by decide))).2⟩
 c9:=fun hk=>⟨listed_keep (h.c9 ((listed_set hk).resolve_left (by decide))).1,listed_keep (h.c9 ((listed_set hk).resolve_left (by decide))).2⟩
 l0:=fun hk=>h.l0 ((listed_set hk).resolve_left (by decide))
 l1:=fun hk=>h.l1 ((listed_set hk).resolve_left (by decide))
 l2:=fun hk=>h.l2 ((listed_set hk).resolve_left (by decide))
 l3:=fun hk=>h.l3 ((listed_set hk).resolve_left (by decide))
 l4:=fun hk=>h.l4 ((listed_set hk).resolve_left (by decide))
 l5:=fun hk=>h.l5 ((listed_set hk).resolve_left (by decide))
 l6:=fun _=>hz
 l7:=fun hk=>h.l7 ((listed_set hk).resolve_left (by decide))
 l8:=fun hk=>h.l8 ((listed_set hk).resolve_left (by decide))
theorem InvO.step7(h:InvO w0 A F n c m d W E s3 s4 s5 s6 s7 s8 s9 s10 s11 l w)(hun:l.getD 7 true=false){z:Value}(hz:OwnE w (w0.heap.size+2) z E):InvO w0 A F n c m d W E s3 s4 s5 s6 s7 s8 s9 z s11 (l.setIfInBounds 7 true) w where
 size:=by rw[Array.size_setIfInBounds];exact h.size
 bel:=h.bel
 cell:=by
  obtain⟨x,y,hc,hh⟩:=h.cell;exact⟨x,y,hc,fun hk=>(un_false hun (h.c9 ((listed_set hk).resolve_left (by decide))).2).elim⟩
 c8:=fun hk=>⟨listed_keep (h.c8 ((listed_set hk).resolve_left (by decide))).1,listed_keep (h.c8 ((listed_set hk).resolve_left (by decide))).2⟩
 c9:=fun hk=>⟨listed_keep (h.c9 ((listed_set hk).resolve_left (by decide))).1,listed_keep (h.c9 ((listed_set hk).resolve_left (by decide))).2⟩
 l0:=fun hk=>h.l0 ((listed_set hk).resolve_left (by decide))
 l1:=fun hk=>h.l1 ((listed_set hk).resolve_left (by decide))
 l2:=fun hk=>h.l2 ((listed_set hk).resolve_left (by decide))
 l3:=fun hk=>h.l3 ((listed_set hk).resolve_left (by decide))
 l4:=fun hk=>h.l4 ((listed_set hk).resolve_left (by decide))
 l5:=fun hk=>h.l5 ((listed_set hk).resolve_left (by decide))
 l6:=fun hk=>h.l6 ((listed_set hk).resolve_left (by decide))
 l7:=fun _=>hz
 l8:=fun hk=>(un_false hun (h.c8 ((listed_set hk).resolve_left (by decide))).2).elim
theorem InvO.step8(h:InvO w0 A F n c m d W E s3 s4 s5 s6 s7 s8 s9 s10 s11 l w)(hun:l.getD 8 true=false)(hp:l.getD 3 false=true/\l.getD 7 false=true){z:Value}(hz:z= .agg #[s6,s10]):InvO w0 A F n c m d W E s3 s4 s5 s6 s7 s8 s9 s10 z (l.setIfInBounds 8 true) w where
 size:=by rw[Array.size_setIfInBounds];exact h.size
 bel:=h.bel
 cell:=by
  obtain⟨x,y,hc,hh⟩:=h.cell;exact⟨x,y,hc,fun hk=>hh ((listed_set hk).resolve_left (by decide))⟩
 c8:=fun _=>⟨listed_keep hp.1,listed_keep hp.2⟩
 c9:=fun hk=>⟨listed_keep (h.c9 ((listed_set hk).resolve_left (by decide))).1,listed_keep (h.c9 ((listed_set hk).resolve_left (by decide))).2⟩
 l0:=fun hk=>h.l0 ((listed_set hk).resolve_left (by decide))
 l1:=fun hk=>h.l1 ((listed_set hk).resolve_left (by decide))
 l2:=fun hk=>h.l2 ((listed_set hk).resolve_left (by decide))
 l3:=fun hk=>h.l3 ((listed_set hk).resolve_left (by decide))
 l4:=fun hk=>h.l4 ((listed_set hk).resolve_left (by decide))
 l5:=fun hk=>h.l5 ((listed_set hk).resolve_left (by decide))
 l6:=fun hk=>h.l6 ((listed_set hk).resolve_left (by decide))
 l7:=fun hk=>h.l7 ((listed_set hk).resolve_left (by decide))
 l8:=fun _=>hz
theorem own_from{base:Nat}{e:TypeId}{s k:Nat}{v:Value}{xs:List Value}(h:w.ownsRow base e s v k xs)(hk: ∀g,base<=g->w'.heap[g]? =w.heap[g]?):w'.ownsRow base e s v k xs:=by
 refine⟨h.1,?_⟩
 rcases h.2 with hn|⟨g,cap,cur,rfl,hg,hgg,rest⟩
 ·exact .inl hn
 ·exact .inr ⟨g,cap,cur,rfl,hg,by rw[hk g hg];exact hgg,rest⟩
theorem InvO.step9(h:InvO w0 A F n c m d W E s3 s4 s5 s6 s7 s8 s9 s10 s11 l w)(hun:l.getD 9 true=false)(hp:l.getD 3 false=true/\l.getD 7 false=true):
  InvO w0 A F n c m d W E s3 s4 s5 s6 s7 s8 s9 s10 s11 (l.setIfInBounds 9 true) ((w.setCell ⟨w0.heap.size+1,0,none⟩ s6).setCell ⟨w0.heap.size+1,1,none⟩ s10):=by
 obtain⟨x,y,hc,_⟩:=h.cell;have hk: ∀g,w0.heap.size+2<=g->((w.setCell ⟨w0.heap.size+1,0,none⟩ s6).setCell ⟨w0.heap.size+1,1,none⟩ s10).heap[g]? =w.heap[g]?:=fun g hg=>by
  rw[Below.heap_setCell _ _ _ _ (by show g≠w0.heap.size+1;omega),Below.heap_setCell _ _ _ _ (by show g≠w0.heap.size+1;omega)]
 have h1:=heap_setCell_same w (w0.heap.size+1) 0 _ _ s6 hc;have h2:=heap_setCell_same _ (w0.heap.size+1) 1 _ _ s10 h1;exact{
  size:=by rw[Array.size_setIfInBounds];exact h.size
  bel:=(h.bel.setCell (Nat.le_refl _) _).setCell (Nat.le_refl _) _
  cell:=⟨s6,s10,h2,fun _=>⟨rfl,rfl⟩⟩
  c8:=fun hk=>⟨listed_keep hp.1,listed_keep hp.2⟩
  c9:=fun _=>⟨listed_keep hp.1,listed_keep hp.2⟩
  l0:=fun hk'=>by
   obtain⟨g,e,hg,hl⟩:=h.l0 ((listed_set hk').resolve_left (by decide))
   exact⟨g,e,by rw[hk g hl];exact hg,hl⟩
  l1:=fun hk=>h.l1 ((listed_set hk).resolve_left (by decide))
  l2:=fun hk=>h.l2 ((listed_set hk).resolve_left (by decide))
  l3:=fun _=>own_from (h.l3 hp.1) hk
  l4:=fun hk'=>by
   obtain⟨g,e,hg,hl⟩:=h.l4 ((listed_set hk').resolve_left (by decide))
   exact⟨g,e,by rw[hk g hl];exact hg,hl⟩
  l5:=fun hk=>h.l5 ((listed_set hk).resolve_left (by decide))
  l6:=fun hk=>h.l6 ((listed_set hk).resolve_left (by decide))
  l7:=fun _=>own_from (h.l7 hp.2) hk
  l8:=fun hk=>h.l8 ((listed_set hk).resolve_left (by decide))}
theorem un_start{k:Nat}(h:(Array.replicate 10 false).getD k false=true):False:=by
 rcases Nat.lt_or_ge k 10 with h1|h1
 ·simp[h1]at h
 ·simp[Array.getElem?_eq_none (show(Array.replicate 10 false).size<=k by simpa using h1)]at h
end
theorem own_any(A F:Option Addr)(n c m d:Nat)(W:List Int)(E:List (Int×Int))(w:World)(hn:W.length=n)(hl:n<=1000)(hm:E.length=m)(hk:m<=1000)(hI:Ints w w.heap.size A W)(hP:Pairs w w.heap.size F E)(hA:A=none->n=0/\c=0)(hF:F=none->m=0/\d=0):
    Calls Tryz.prog 10 #[.agg #[.slice A n c, .slice F m d]] w (GotGr W E w):=by
  subst hn;subst hm;obtain⟨i0,hi0,hz0,hz1,hz2⟩:=info_parts int_cell_info;obtain⟨j0,hj0,hy0,hy1,hy2⟩:=info_parts edge_cell_info;go_enter Tryz.func10,Tryz.ntmps10;go_wp2;refine wp_region_inv (fun l a w'=> ∃s3 s4 s5 s6 s7 s8 s9 s10 s11:Value,a=⟨#[.agg #[.slice A W.length c, .slice F E.length d], .pointer (some ⟨w.heap.size,0,none⟩), .pointer (some ⟨w.heap.size+1,0,none⟩),s3,s4,s5,s6,s7,s8,s9,s10,s11], []⟩/\
    InvO w A F W.length c E.length d W E s3 s4 s5 s6 s7 s8 s9 s10 s11 l w') (by kernel_rfl) ?h0 ?hstep ?hend
  case h0=>
    refine⟨undef,undef,undef,undef,undef,undef,undef,undef,undef,rfl,?_⟩
    have hc:=heap_alloc_new (w.alloc (.cells #[.slice A W.length c, .slice F E.length d] 25)) (.cells #[.slice none 0 0, .slice none 0 0] 25);rw[show(w.alloc (.cells #[.slice A W.length c, .slice F E.length d] 25)).heap.size=w.heap.size+1 by simp]at hc
    exact{
      size:=by simp
      bel:=((Below.refl _ _).alloc (by simp) _).drew
      cell:=⟨_,_,hc,fun hk=>(un_start hk).elim⟩
      c8:=fun hk=>(un_start hk).elim
      c9:=fun hk=>(un_start hk).elim
      l0:=fun hk=>(un_start hk).elim
      l1:=fun hk=>(un_start hk).elim
      l2:=fun hk=>(un_start hk).elim
      l3:=fun hk=>(un_start hk).elim
      l4:=fun hk=>(un_start hk).elim
      l5:=fun hk=>(un_start hk).elim
      l6:=fun hk=>(un_start hk).elim
      l7:=fun hk=>(un_start hk).elim
      l8:=fun hk=>(un_start hk).elim}
  case hstep=>
    rintro l a w' i ⟨s3,s4,s5,s6,s7,s8,s9,s10,s11,rfl,HV⟩ hi;obtain⟨hun,o,ho,hpre⟩:=mem_ready.1 hi;clear hi;have hlt:i<10:=by
      rcases Nat.lt_or_ge i 10 with h|h
      · exact h
      · rw[Array.getElem?_eq_none (by simpa using h)]at ho;cases ho
    have hsz:=HV.lt;have hbx0:w'.cell? ⟨w.heap.size,0,none⟩=some (.slice A W.length c):=(HV.bel.cell (Nat.lt_succ_self _)).trans (by rw[World.cell?_alloc_at _ _ _ _ rfl];rfl)
    have hbx1:w'.cell? ⟨w.heap.size,1,none⟩=some (.slice F E.length d):=(HV.bel.cell (Nat.lt_succ_self _)).trans (by rw[World.cell?_alloc_at _ _ _ _ rfl];rfl)
    match i,hlt with
    | 0, _ =>
      clear ho hpre;refine wpOp_at rfl rfl ?_
      go_simp
      refine⟨_,_,_,_,_,_,_,_,_,⟨rfl,rfl,rfl,rfl,rfl,rfl,rfl,rfl,rfl⟩,(HV.mono (below_alloc _)).step0 hun ⟨w'.heap.size,rfl,heap_alloc_new w' _,hsz⟩⟩
    | 1, _ =>
      clear ho hpre;refine wpOp_at rfl rfl ?_
      go_simp
      exact⟨_,_,_,_,_,_,_,_,_,⟨rfl,rfl,rfl,rfl,rfl,rfl,rfl,rfl,rfl⟩,HV.step1 hun rfl⟩
    | 2, _ =>
      have h4:=HV.l1 (by have:=(Option.some.inj ho).symm;subst this;exact hpre ⟨1, .data⟩ (by simp) (by rfl))
      subst h4;clear ho hpre;refine wpOp_at rfl rfl ?_
      go_simp
      exact⟨_,_,_,_,_,_,_,_,_,⟨rfl,rfl,rfl,rfl,rfl,rfl,rfl,rfl,rfl⟩,HV.step2 hun rfl⟩
    | 3, _ =>
      obtain⟨g,rfl,hg,hgl⟩:=HV.l0 (by have:=(Option.some.inj ho).symm;subst this;exact hpre ⟨0, .data⟩ (by simp) (by rfl))
      have h5:=HV.l2 (by have:=(Option.some.inj ho).symm;subst this;exact hpre ⟨2, .data⟩ (by simp) (by rfl))
      subst h5;clear ho hpre;obtain⟨v',w2,hr,how,hb⟩:=fresh_append w' 22 22 3 i0 (.int .i64 0) 1 8 Tryz.underlying22 hi0 hz0 hz1 hz2 rfl (by omega) (w.heap.size+2) g hg hgl hsz A W.length c (W.map (Value.int .i64)) (by simp) hA
        (fun ad e=>by subst e;exact(hI.keep (w':=w') fun q hq=>(HV.bel.cell (by omega)).trans (World.cell?_alloc_lt w _ q hq)).cells) (oneCell_ints W) (by unfold maxLen;omega) (by omega)
      refine wpOp_at rfl rfl (wp_append_run rfl rfl rfl hr ?_)
      exact⟨_,_,_,_,_,_,_,_,_,rfl,(HV.mono hb).step3 hun how⟩
    | 4, _ =>
      clear ho hpre;refine wpOp_at rfl rfl ?_
      go_simp
      refine⟨_,_,_,_,_,_,_,_,_,⟨rfl,rfl,rfl,rfl,rfl,rfl,rfl,rfl,rfl⟩,(HV.mono (below_alloc _)).step4 hun ⟨w'.heap.size,rfl,heap_alloc_new w' _,hsz⟩⟩
    | 5, _ =>
      clear ho hpre;refine wpOp_at rfl rfl ?_
      go_simp
      exact⟨_,_,_,_,_,_,_,_,_,⟨rfl,rfl,rfl,rfl,rfl,rfl,rfl,rfl,rfl⟩,HV.step5 hun rfl⟩
    | 6, _ =>
      have h4:=HV.l5 (by have:=(Option.some.inj ho).symm;subst this;exact hpre ⟨5, .data⟩ (by simp) (by rfl))
      subst h4;clear ho hpre;refine wpOp_at rfl rfl ?_
      go_simp
      exact⟨_,_,_,_,_,_,_,_,_,⟨rfl,rfl,rfl,rfl,rfl,rfl,rfl,rfl,rfl⟩,HV.step6 hun rfl⟩
    | 7, _ =>
      obtain⟨g,rfl,hg,hgl⟩:=HV.l4 (by have:=(Option.some.inj ho).symm;subst this;exact hpre ⟨4, .data⟩ (by simp) (by rfl))
      have h5:=HV.l6 (by have:=(Option.some.inj ho).symm;subst this;exact hpre ⟨6, .data⟩ (by simp) (by rfl))
      subst h5;clear ho hpre;obtain⟨v',w2,hr,how,hb⟩:=fresh_append w' 23 23 163 j0 (.agg #[.int .i64 0, .int .i64 0]) 2 16 Tryz.underlying23 hj0 hy0 hy1 hy2 rfl (by omega) (w.heap.size+2) g hg hgl hsz F E.length d (flatE E) (flatE_length E) hF
        (fun ad e=>by subst e;exact(hP.keep (w':=w') fun q hq=>(HV.bel.cell (by omega)).trans (World.cell?_alloc_lt w _ q hq)).news) (flatE_one E) (by unfold maxLen;omega) (by omega)
      refine wpOp_at rfl rfl (wp_append_run rfl rfl rfl hr ?_)
      exact⟨_,_,_,_,_,_,_,_,_,rfl,(HV.mono hb).step7 hun how⟩
    | 8, _ =>
      have q3:l.getD 3 false=true:=by have:=(Option.some.inj ho).symm;subst this;exact hpre ⟨3, .data⟩ (by simp) (by rfl)
      have q7:l.getD 7 false=true:=by have:=(Option.some.inj ho).symm;subst this;exact hpre ⟨7, .data⟩ (by simp) (by rfl)
      clear ho hpre;obtain⟨A1,c1,rfl,_⟩:=(HV.l3 q3).slice;obtain⟨A2,c2,rfl,_⟩:=(HV.l7 q7).slice;refine wpOp_at rfl rfl ?_
      go_simp
      exact⟨_,_,_,_,_,_,_,_,_,⟨rfl,rfl,rfl,rfl,rfl,rfl,rfl,rfl,rfl⟩,HV.step8 hun ⟨q3,q7⟩ rfl⟩
    | 9, _ =>
      have q8:=HV.l8 (by have:=(Option.some.inj ho).symm;subst this;exact hpre ⟨8, .data⟩ (by simp) (by rfl))
      have q7:l.getD 7 false=true:=by have:=(Option.some.inj ho).symm;subst this;exact hpre ⟨7, .phase⟩ (by simp) (by rfl)
      have q3:l.getD 3 false=true:=by have:=(Option.some.inj ho).symm;subst this;exact hpre ⟨3, .phase⟩ (by simp) (by rfl)
      clear ho hpre;subst q8;obtain⟨A1,c1,rfl,_⟩:=(HV.l3 q3).slice;obtain⟨A2,c2,rfl,_⟩:=(HV.l7 q7).slice;obtain⟨x,y,hc,_⟩:=HV.cell;have hx:=cell_of_row w' _ 0 _ _ _ hc;have hy:=cell_of_row w' _ 1 _ _ _ hc;have hfx:=frozen_of_row w' _ 0 _ _ hc;have hfy:=frozen_of_row w' _ 1 _ _ hc;simp at hx hy;refine wpOp_at rfl rfl ?_
      go_simp
      exact⟨_,_,_,_,_,_,_,_,_,⟨rfl,rfl,rfl,rfl,rfl,rfl,rfl,rfl,rfl⟩,HV.step9 hun ⟨q3,q7⟩⟩
  case hend=>
    rintro l a w' ⟨s3,s4,s5,s6,s7,s8,s9,s10,s11,rfl,HV⟩ hr;have hall:=all_listed HV.size (back_of (by kernel_rfl)) hr
    obtain⟨x,y,hc,he⟩:=HV.cell;obtain⟨rfl,rfl⟩:=he (hall 9 (by decide))
    have hu:=HV.l3 (hall 3 (by decide))
    have hv:=HV.l7 (hall 7 (by decide))
    obtain⟨A1,c1,rfl,_⟩:=hu.slice;obtain⟨A2,c2,rfl,_⟩:=hv.slice;have hx:=cell_of_row w' _ 0 _ _ _ hc;have hy:=cell_of_row w' _ 1 _ _ _ hc;simp at hx hy;have HB:=HV.bel;clear HV hall hr;go_wp2;exact bodyPost_ret (by simp[results,Tryz.results10,go_sem,hx,hy]) rfl ⟨_,_,rfl,own_less hu (by omega),own_less hv (by omega),(below_alloc _).trans (HB.mono (by omega))⟩
theorem few_yes(A F:Option Addr)(n c m d:Nat)(w:World)(h:n<=70)(k:m<=300):
  Calls Tryz.prog 7 #[.agg #[.slice A n c,.slice F m d]] w fun e w'=>e= .returned (.bool true)/\Below w.heap.size w w':=by
 have g1:decide (n<=70)=true:=by simpa using h
 have g2:decide ((n:Int)<=70)=true:=by rw[decide_eq_true_iff];omega
 have g3:decide (m<=300)=true:=by simpa using k
 have g4:decide ((m:Int)<=300)=true:=by rw[decide_eq_true_iff];omega
 go_enter Tryz.func7,Tryz.ntmps7;go_wp2;go_ret;exact⟨rfl,below_alloc _⟩
theorem few_no(A F:Option Addr)(n c m d:Nat)(w:World)(hn:n<=9223372036854775807)(hm:m<=9223372036854775807)(h: ¬(n<=70/\m<=300)):
  Calls Tryz.prog 7 #[.agg #[.slice A n c,.slice F m d]] w fun e w'=>e= .returned (.bool false)/\Below w.heap.size w w':=by
 have k:70<n\/(n<=70/\300<m):=by omega
 clear h;rcases k with k|⟨k,k2⟩
 ·go_enter Tryz.func7,Tryz.ntmps7
  go_wp2;go_ret
  exact⟨rfl,below_alloc _⟩
 ·have g3: decide (m <= 300) = false:=by rw [decide_eq_false_iff_not]; omega
  have g4:decide ((m:Int)<=300)=false:=by rw[decide_eq_false_iff_not];omega
  go_enter Tryz.func7,Tryz.ntmps7;go_wp2;go_ret;exact⟨rfl,below_alloc _⟩
theorem mem_take_snoc{α:Type} [DecidableEq α]{l:List α}{j:Nat}{e x:α}(h:l[j]? =some e):x∈l.take (j+1)↔x∈l.take j\/x=e:=by
 rw[List.take_add_one,h];simp
theorem has_any(A:Option Addr)(c:Nat)(zs:List Int)(x:Int)(w:World)(len:Nat)(hn:zs.length=len)(hl:len<=1000)(hI:Ints w w.heap.size A zs):
  Calls Tryz.prog 22 #[.slice A len c,.int .i64 x] w fun e w'=>e= .returned (.bool (decide (x∈zs)))/\w=w':=by
 have HI:=Lib.hid hI;have HM:=Lib.hid hn;obtain⟨r,hr⟩: ∃r,r=decide (x∈zs):=⟨_,rfl⟩;rw[<-hr];have HR:=Lib.hid hr;clear hI hn hr;go_enter Tryz.func22,Tryz.ntmps22;go_wp2;go_loop [5] (fun i=> ∃j:Nat,j<=len/\i= .int .i64 j/\Hid (x∉zs.take j)) (fun i=>len - (intOf i).toNat)
 case atStart=>exact⟨0,Nat.zero_le _,rfl,Lib.hid (by simp)⟩
 case round=>
  obtain⟨j,hj,rfl,HN⟩:=hrel
  by_cases hlt:j<len
  ·obtain ⟨bk,o,z,rfl,hbg,hzj,hc1⟩:=HI.out.at_ (k:=j) (by rw [HM.out]; exact hlt)
   have HS:=Lib.hid (mem_take_snoc (x:=x) hzj);have HZJ:=Lib.hid hzj;clear hzj
   by_cases h1:z=x
   ·have hin: x ∈ zs:=by subst h1; exact List.mem_of_getElem? HZJ.out
    have HIN:=Lib.hid (decide_eq_true hin);clear hin;go_wp2;go_ret;exact⟨by rw[HR.out,HIN.out];rfl,rfl⟩
   ·have h3: (z == x) = false:=by simpa using h1
    go_wp2;go_round
    case rel=>exact⟨j+1,by omega,by go_num,Lib.hid (by rw[HS.out];rintro(h|h);exact HN.out h;exact h1 h.symm)⟩
    case measure=>simp[intOf];omega
  ·obtain rfl: j = len:=by omega
   have hno:x∉zs:=by
    have h:=HN.out
    rwa [List.take_of_length_le (by rw[HM.out];omega)]at h
   have HNO:=Lib.hid (decide_eq_false hno);clear hno;go_wp2;go_ret;exact⟨by rw[HR.out,HNO.out];rfl,rfl⟩
end Go.Proofs.YtngdbbligebcbabGreatDoor
