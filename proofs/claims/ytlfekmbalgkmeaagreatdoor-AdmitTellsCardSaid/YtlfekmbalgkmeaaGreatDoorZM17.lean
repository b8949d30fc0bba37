import Derived.Test.YtlfekmbalgkmeaaGreatDoorZM16
import Derived.Maps.OwnSet
import Derived.Maps.OwnOps
import Derived.Test.YtlfekmbalgkmeaaGreatDoorZM8
import Derived.WideKeyEntry
set_option linter.unusedSimpArgs false
set_option linter.unnecessarySimpa false
set_option linter.unusedVariables false
set_option maxRecDepth 100000
set_option maxHeartbeats 8000000
namespace Go.Proofs.YtlfekmbalgkmeaaGreatDoor
open Go.RowKit
def RXl(t:TypeId)(base:Nat)(row:Option Nat)(w w':World):Prop:=
 Below w.heap.size w w'\/(w.grownBy w' row/\ ∀b,row=some b->base<=b/\ ∃cs fr,w.heap[b]? =some (.cells cs t fr))
theorem RXl.size{t:TypeId}{base:Nat}{row:Option Nat}{w w':World}(h:RXl t base row w w'):w.heap.size<=w'.heap.size:=by
 rcases h with h|⟨h,_⟩
 ·exact h.size
 ·exact h.size
theorem RXl.heap{u:TypeId}{base:Nat}{row:Option Nat}{w w':World}(h:RXl u base row w w'){k:Nat}{cs:Array Value}{t:TypeId}{fr:Nat×Nat}(hk:w.heap[k]? =some (.cells cs t fr))(ht:t≠u):w'.heap[k]? =some (.cells cs t fr):=by
 have hlt:k<w.heap.size:=(Array.getElem?_eq_some_iff.1 hk).1
 rcases h with h|⟨h,h2⟩
 ·rw[h.block k hlt];exact hk
 ·rw [h.block k hlt (fun e => by
   obtain⟨_,cs',fr',h3⟩:=h2 k e.symm;rw[hk]at h3;injection h3 with h3;injection h3 with _ h4 _;exact ht h4)]
  exact hk
theorem RXl.own{u:TypeId}{base base':Nat}{row:Option Nat}{w w':World}(h:RXl u base row w w'){t:TypeId}{s n:Nat}{v:Value}{xs:List Value}(ho:w.ownsRow base' t s v n xs)(ht:t≠u):w'.ownsRow base' t s v n xs:=by
 refine⟨ho.1,?_⟩
 rcases ho.2 with hn|⟨g,cap,cur,rfl,hg,hgg,rest⟩
 ·exact .inl hn
 ·exact .inr ⟨g,cap,cur,rfl,hg,h.heap hgg ht,rest⟩
theorem RXl.below{t:TypeId}{base:Nat}{row:Option Nat}{w w':World}(h:RXl t base row w w')(hb:base<=w.heap.size):Below base w w':=by
 rcases h with h|⟨h,h2⟩
 ·exact h.mono hb
 ·refine ⟨h.os,h.tape,h.output,h.size,fun k hk => h.block k (by omega) (fun e => ?_)⟩
  have:=(h2 k e.symm).1;omega
def OwnX(t:TypeId)(row:Option Nat)(news:List Value)(v:Value)(w:World):Prop:=
 ∃h,v= .slice (some ⟨h,0,none⟩) 1 1/\w.heap[h]? =some (.cells news.toArray t (0,0))/\row≠some h
theorem OwnX.rx{t u:TypeId}{base:Nat}{row:Option Nat}{news:List Value}{v:Value}{w w':World}(h:OwnX t row news v w)(hr:RXl u base row w w'):OwnX t row news v w':=by
 obtain⟨k,e,hk,hne⟩:=h;have hlt:k<w.heap.size:=(Array.getElem?_eq_some_iff.1 hk).1
 refine⟨k,e,?_,hne⟩
 rcases hr with hr|⟨hr,_⟩
 ·rw[hr.block k hlt];exact hk
 ·rw[hr.block k hlt (fun e=>hne e.symm)];exact hk
theorem row_lt{w:World}{base:Nat}{t:TypeId}{s n:Nat}{v:Value}{xs:List Value}(h:w.ownsRow base t s v n xs): ∀b,v.ownBlock=some b->base<=b/\b<w.heap.size/\ ∃cs fr,w.heap[b]? =some (.cells cs t fr):=by
 intro b hb;rcases h.2 with⟨rfl,_⟩|⟨g,cap,cur,rfl,hg,hgg,_⟩
 ·simp[Value.ownBlock]at hb
 ·obtain rfl: g = b:=by simpa [Value.ownBlock] using hb
  exact⟨hg,(Array.getElem?_eq_some_iff.1 hgg).1,_,_,hgg⟩
def Grew(t:TypeId)(base s n:Nat)(xs:List Value)(v:Value)(w:World):Prop:=∃ F d,v= .slice F n d/\w.ownsRow base t s (.slice F n d) n xs
theorem Grew.below{t:TypeId}{base s n:Nat}{xs:List Value}{v:Value}{w w':World}(h:Grew t base s n xs v w)(hb:Below w.heap.size w w'):Grew t base s n xs v w':=by
 obtain⟨F,d,e,ho⟩:=h;exact⟨F,d,e,own_below ho hb⟩
theorem ownX_append{w:World}{base:Nat}{t tl:TypeId}{s bytes n:Nat}{z u v:Value}{xs news:List Value}(hu:Tryz.prog.underlying tl=some (.slice t))(hinf:(Tryz.prog.info? t).map (fun i=>(i.zero,i.size,i.bytes))=some (some z,s,bytes))(hzs:z.cells.size=s)(hs0:0<s)(hby:bytes<=48)
  (hO:w.ownsRow base t s u n xs) (hE:OwnX t u.ownBlock news v w) (hs:news.length=s) (h1: ∀x∈news,x.oneCell'=true) (hl:n<=1000) (hb:base<=w.heap.size):
  ∃v' w',(Builtin.append_ #[tl,tl] tl #[u,v]).run Tryz.prog w= .ok v' w'/\Grew t base s (n+1) (xs++news) v' w'/\RXl t base u.ownBlock w w'/\ ∀k,v'.ownBlock=some k->u.ownBlock=some k\/w.heap.size<=k:=by
 obtain⟨h,rfl,hh,hne⟩:=hE;obtain⟨i0,hi0,hz0,hz1,hz2⟩:=info_parts5 hinf;have hlt:=row_lt hO;obtain⟨g,cap,w',hr,how,hg,hat,hgl⟩:=run_append_lies (P:=Tryz.prog) w tl tl base t i0 z s bytes hu hi0 hz0 hz1 hz2 hzs hs0 u n xs hO
  ⟨h,0,none⟩ 1 1 news (by rw[hs,Nat.one_mul]) (fun j x hx=>World.news_of_block hh j x (by simpa using hx)) h1 (by omega) (by unfold maxLen;omega) (by have:(n+1) * bytes<=1001 * 48:=Nat.mul_le_mul (by omega) hby;omega) hb _ rfl
 exact⟨_,w',hr,⟨_,_,rfl,how⟩,.inr ⟨hg,fun b hb'=>⟨(hlt b hb').1,(hlt b hb').2.2⟩⟩,fun k hk=>by
  obtain rfl:g=k:=by simpa[Value.ownBlock]using hk
  rcases hat with h|h
  ·exact .inl h
  ·exact .inr (by omega)⟩
theorem idx_eq{ρ:Operand->Value}{o:Oper}{x y:Operand}{lb lo n c k:Nat}{w:World}(ho:o.op= .indexAddr 40 x y)(hx:ρ x= .slice (some ⟨lb,lo,none⟩) n c)(hy:ρ y= .int .i64 (k:Int))(hk:k<n):
  (execOp ρ o).run Tryz.prog w= .ok (.value (.pointer (some ⟨lb,lo+k,none⟩))) w:=by
 have hk2:(k:Int)<(n:Int):=by omega
 simp[execOp,ho,hx,hy,hk2,go_sem]
theorem RXl.map{t:TypeId}{base:Nat}{row:Option Nat}{w w':World}(h:RXl t base row w w'){b:Nat}{es:Array MapEntry}{clock:Nat}(hb:w.heap[b]? =some (.map es clock)):w'.heap[b]? =some (.map es clock):=by
 have hlt:b<w.heap.size:=(Array.getElem?_eq_some_iff.1 hb).1
 rcases h with h|⟨h,h2⟩
 ·rw[h.block b hlt];exact hb
 ·rw [h.block b hlt (fun e => by
   obtain⟨_,cs',fr',h3⟩:=h2 b e.symm;rw[hb]at h3;injection h3 with h3;cases h3)]
  exact hb
theorem RXl.ownsMap{t k:TypeId}{base:Nat}{row:Option Nat}{w w':World}(h:RXl t base row w w'){R:Value->Option (DataW Unit×List MemPlace)}{b n:Nat}{D:DataW Unit}(hm:w.ownsMap Tryz.prog k R b n D):w'.ownsMap Tryz.prog k R b n D:=by
 obtain⟨es,clock,hb,F,hs,hD⟩:=hm;exact⟨es,clock,h.map hb,F,hs,hD⟩
theorem wpList_append_run{P:Program}{ops:Array Oper}{rest:List Oper}{o:Oper}{a:Act}{Q:Exit->Act->World->Prop}{w w':World}{v:Value}(hgd:o.guard=none)(s x:Operand)(t:TypeId)(vs vx:Value)
  (ho:o.op= .call {callee:=.builtin .append,args:=#[s,x],argTypes:=#[t,t]}) (hs:a.eval s=vs) (hx:a.eval x=vx) (hr:(Builtin.append_ #[t,t] o.type #[vs,vx]).run P w= .ok v w')
  (h:wpList P ops Q rest (a.put o.dst v) w'):wpList P ops Q (o::rest) a w:=by
 refine wpList_plain hgd fun K hK=> ?_
 unfold Oper.wp execOp;simp only[ho,resolve,invoke,builtin,Sem.run_bind,Sem.run_pure,Result.andThen_ok,List.map_toArray,List.map_cons,List.map_nil,hs,hx,hr];exact hK _ _ h
theorem wpList_pushX{ops:Array Oper}{rest:List Oper}{o:Oper}{a:Act}{Q:Exit->Act->World->Prop}(hgd:o.guard=none)(s x:Operand)(t tl:TypeId)(size bytes:Nat)(z:Value)(hu:Tryz.prog.underlying tl=some (.slice t))
  (hinf:(Tryz.prog.info? t).map (fun i=>(i.zero,i.size,i.bytes))=some (some z,size,bytes)) (hzs:z.cells.size=size) (hs0:0<size) (hby:bytes<=48) (hty:o.type=tl)
  (ho:o.op= .call {callee:=.builtin .append,args:=#[s,x],argTypes:=#[tl,tl]}) (w1:World) (base n:Nat) (u:Value) (xs news:List Value) (hO:w1.ownsRow base t size u n xs) (hn:news.length=size) (h1: ∀x∈news,x.oneCell'=true) (hl:n<=1000) (hb:base<=w1.heap.size)
  (hs:a.eval s=u) (hx:a.eval x= .slice (some ⟨w1.heap.size,0,none⟩) 1 1)
  (h: ∀F d w',w'.ownsRow base t size (.slice F (n+1) d) (n+1) (xs++news)->RXl t base u.ownBlock w1 w'->(∀k,(Value.slice F (n+1) d).ownBlock=some k->u.ownBlock=some k\/w1.heap.size<=k)->wpList Tryz.prog ops Q rest (a.put o.dst (.slice F (n+1) d)) w'):
  wpList Tryz.prog ops Q (o::rest) a (w1.alloc (.cells news.toArray t)):=by
 have hE:OwnX t u.ownBlock news (.slice (some ⟨w1.heap.size,0,none⟩) 1 1) (w1.alloc (.cells news.toArray t)):=⟨w1.heap.size,rfl,heap_alloc_new w1 _,fun e=>by have:=(row_lt hO _ e).2.1;omega⟩
 obtain⟨v',w',hr,⟨F,d,rfl,ho'⟩,hR,hat⟩:=ownX_append (tl:=tl) hu hinf hzs hs0 hby (own_below hO (below_alloc _)) hE hn h1 hl (by simp;omega)
 have hR':RXl t base u.ownBlock w1 w':=by
  rcases hR with hR|⟨hg,h2⟩
  ·exact .inl ((below_alloc _).trans (hR.mono (by simp)))
  ·refine .inr ⟨⟨hg.os,hg.tape,hg.output,Nat.le_trans (by simp) hg.size,fun k hk hne => ?_⟩,fun b hb' => ⟨(h2 b hb').1,(row_lt hO b hb').2.2⟩⟩
   rw[hg.block k (by simp;omega) hne]
   exact(below_alloc _).block k hk
 exact wpList_append_run hgd s x tl u _ ho hs hx (by rw[hty];exact hr) (h F d w' ho' hR' (fun k hk=>(hat k hk).imp id (fun h=>by simp at h;omega)))
end Go.Proofs.YtlfekmbalgkmeaaGreatDoor
namespace Go.Proofs.YtlfekmbalgkmeaaGreatDoor
open Go.RowKit Go.Maps
theorem piece_info:(Tryz.prog.info? 153).map (fun i=>(i.zero,i.size,i.bytes))=some (some (.agg #[.int .i64 0,.int .i64 0]),2,16):=by kernel_rfl
theorem law_int:Keyed Tryz.prog 3:=int_keyed Tryz.underlying3
theorem zero_intL(w:World):(zeroValue 3).run Tryz.prog w= .ok (.int .i64 0) w:=by kernel_rfl
def OwnP(w:World)(base:Nat)(v:Value)(ps:List (Int×Int)):Prop:=w.ownsRow base 153 2 v ps.length (flatE ps)
def OwnM(w:World)(b n:Nat)(D:DataW Unit):Prop:=w.ownsMap Tryz.prog 3 (plainElem Tryz.prog 3) b n D
def Tells(D:DataW Unit)(f:Nat->Nat)(x:Nat):Prop:=∀ k,k<x->D.atKey (.int .i64 (k:Int)) (.lit (.int .i64 0))= .lit (.int .i64 ((f k:Nat):Int))
theorem Tells.zero(D:DataW Unit)(f:Nat->Nat):Tells D f 0:=fun k hk=>by omega
theorem Tells.put{D:DataW Unit}{f:Nat->Nat}{x v:Nat}(h:Tells D f x)(hD:IsMap D)(hv:v=f x):Tells (D.put (.int .i64 (x:Int)) (.lit (.int .i64 (v:Int)))) f (x+1):=fun k hk=>by
 by_cases e:k=x
 ·subst e
  rw[atKey_put_same hD (by simp[WideAt.IsKeyLit]),hv]
 ·rw [atKey_put_other (fun h => by injection h with _ h; omega)]
  exact h k (by omega)
theorem Tells.over{D:DataW Unit}{f:Nat->Nat}{x v:Nat}(h:Tells D f x):Tells (D.put (.int .i64 (x:Int)) (.lit (.int .i64 (v:Int)))) f x:=fun k hk=>by
 rw[atKey_put_other (fun h=>by injection h with _ h;omega)]
 exact h k hk
theorem key_int{n:Int}(h1: -9223372036854775808<=n)(h2:n<=9223372036854775807):keyOf Tryz.prog 3 (.int .i64 n)=some (.int .i64 n):=keyOf_int_mk Tryz.underlying3 (WalkArith.wf_i64 ⟨h1,h2⟩)
structure Gl(base gb b1 b2 n1 n2:Nat)(D1 D2:DataW Unit)(vW vE vP:Value)(W:List Int)(E P:List (Int×Int))(w:World):Prop where
 row:w.heap[gb]? =some (.cells #[vW,vE,vP,.map (some b1),.map (some b2)] 141 (0,0))
 le:base<=gb
 le1:base<=b1
 le2:base<=b2
 ne:b1≠b2
 hW:OwnI w base vW W
 hE:OwnE w base vE E
 hP:OwnP w base vP P
 m1:OwnM w b1 n1 D1
 m2:OwnM w b2 n2 D2
section
variable {base gb b1 b2 n1 n2: Nat} {D1 D2: DataW Unit} {vW vE vP: Value} {W: List Int} {E P: List (Int × Int)} {w w': World}
theorem Gl.cell(h:Gl base gb b1 b2 n1 n2 D1 D2 vW vE vP W E P w)(j:Nat):w.cell? ⟨gb,j,none⟩= #[vW,vE,vP,.map (some b1),.map (some b2)][j]?:=cell_of_row w gb j _ _ _ h.row
theorem Gl.lt(h:Gl base gb b1 b2 n1 n2 D1 D2 vW vE vP W E P w):gb<w.heap.size:=(Array.getElem?_eq_some_iff.1 h.row).1
theorem Gl.frozen(h:Gl base gb b1 b2 n1 n2 D1 D2 vW vE vP W E P w)(j:Nat):w.frozen? ⟨gb,j,none⟩=false:=frozen_of_row w gb j _ _ h.row
theorem OwnM.below{b n:Nat}{D:DataW Unit}(h:OwnM w b n D)(hb:Below w.heap.size w w'):OwnM w' b n D:=by
 have hl:=h.lt;obtain⟨es,clock,hb',F,hs,hD⟩:=h;exact⟨es,clock,by rw[hb.block b hl];exact hb',F,hs,hD⟩
theorem Gl.below(h:Gl base gb b1 b2 n1 n2 D1 D2 vW vE vP W E P w)(hb:Below w.heap.size w w'):Gl base gb b1 b2 n1 n2 D1 D2 vW vE vP W E P w':=
 ⟨by rw[hb.block _ h.lt];exact h.row,h.le,h.le1,h.le2,h.ne,own_below h.hW hb,own_below h.hE hb,own_below h.hP hb,h.m1.below hb,h.m2.below hb⟩
theorem Gl.nm1(h:Gl base gb b1 b2 n1 n2 D1 D2 vW vE vP W E P w):b1≠gb:=fun e=>by
 obtain⟨es,clock,hb,_⟩:=h.m1;rw[e,h.row]at hb;injection hb with hb;cases hb
theorem Gl.nm2(h:Gl base gb b1 b2 n1 n2 D1 D2 vW vE vP W E P w):b2≠gb:=fun e=>by
 obtain⟨es,clock,hb,_⟩:=h.m2;rw[e,h.row]at hb;injection hb with hb;cases hb
theorem Gl.stored{u:Value}{vW' vE' vP':Value}{W':List Int}{E' P':List (Int×Int)}(j:Nat)(h:Gl base gb b1 b2 n1 n2 D1 D2 vW vE vP W E P w){w1:World}
  (hrow:w1.heap[gb]? =some (.cells #[vW,vE,vP,.map (some b1),.map (some b2)] 141 (0,0))) (hset: #[vW,vE,vP,.map (some b1),.map (some b2)].setIfInBounds j u= #[vW',vE',vP',.map (some b1),.map (some b2)])
  (hW:OwnI w1 base vW' W') (hE:OwnE w1 base vE' E') (hP:OwnP w1 base vP' P') (m1:OwnM w1 b1 n1 D1) (m2:OwnM w1 b2 n2 D2):
  Gl base gb b1 b2 n1 n2 D1 D2 vW' vE' vP' W' E' P' (w1.setCell ⟨gb,j,none⟩ u)/\Below base w1 (w1.setCell ⟨gb,j,none⟩ u):=by
 have hf: ∀k,k≠gb->(w1.setCell ⟨gb,j,none⟩ u).heap[k]? =w1.heap[k]?:=fun k hk=>heap_setCell_other _ _ _ _ hk
 have hmk: ∀{b n:Nat} {D:DataW Unit},OwnM w1 b n D->b≠gb->OwnM (w1.setCell ⟨gb,j,none⟩ u) b n D:=fun{b n D} hm hb=>by
  obtain⟨es,clock,hb',F,hs,hD⟩:=hm;exact⟨es,clock,(hf b hb).trans hb',F,hs,hD⟩
 have h6:=heap_setCell_same w1 gb j _ _ u hrow;rw[hset]at h6;exact⟨⟨h6,h.le,h.le1,h.le2,h.ne,other_own hW hrow (by decide) hf,other_own hE hrow (by decide) hf,other_own hP hrow (by decide) hf,hmk m1 h.nm1,hmk m2 h.nm2⟩,(Below.refl base w1).setCell h.le u⟩
end
structure Side(w:World)(base:Nat)(vW vX:Value)(L:List Int):Prop where
 own:OwnI w base vX L
 apart: ∀k,vX.ownBlock=some k->vW.ownBlock≠some k
theorem Side.nil(w:World)(base:Nat)(vW:Value):Side w base vW (.slice none 0 0) []:=⟨⟨rfl,.inl ⟨rfl,rfl⟩⟩,fun k h=>by cases h⟩
theorem Side.below{w w':World}{base:Nat}{vW vX:Value}{L:List Int}(h:Side w base vW vX L)(hb:Below w.heap.size w w'):Side w' base vW vX L:=⟨own_below h.own hb,h.apart⟩
theorem Side.rx{t:TypeId}{w w':World}{b base:Nat}{row:Option Nat}{vW vX:Value}{L:List Int}(h:Side w base vW vX L)(hr:RXl t b row w w')(ht:3≠t):Side w' base vW vX L:=⟨hr.own h.own ht,h.apart⟩
theorem Side.grew{w w':World}{base:Nat}{vW vX vW':Value}{L:List Int}(h:Side w base vW vX L)(hr:RXl 3 base vW.ownBlock w w')(hat: ∀k,vW'.ownBlock=some k->vW.ownBlock=some k\/w.heap.size<=k):Side w' base vW' vX L:=by
 refine⟨⟨h.own.1,?_⟩,fun k hk e=> ?_⟩
 ·rcases h.own.2 with hn | ⟨g,cap,cur,rfl,hg,hgg,rest⟩
  ·exact .inl hn
  ·refine .inr ⟨g,cap,cur,rfl,hg,?_,rest⟩
   rcases hr with hr|⟨hr,_⟩
   ·rw[hr.block g (Array.getElem?_eq_some_iff.1 hgg).1];exact hgg
   ·rw[hr.block g (Array.getElem?_eq_some_iff.1 hgg).1 (fun e=>h.apart g rfl e.symm)];exact hgg
 ·rcases hat k e with h1 | h1
  ·exact h.apart k hk h1
  ·have:=(row_lt h.own k hk).2.1
   omega
theorem Side.stored{w:World}{base gb j:Nat}{vW vX u:Value}{L:List Int}{cs:Array Value}(h:Side w base vW vX L)(hrow:w.heap[gb]? =some (.cells cs 141 (0,0))):Side (w.setCell ⟨gb,j,none⟩ u) base vW vX L:=
 ⟨other_own h.own hrow (by decide) (fun k hk=>heap_setCell_other _ _ _ _ hk),h.apart⟩
def Keeps(w w':World):Prop:=∀ (k:Nat) (cs:Array Value) (t:TypeId) (fr:Nat×Nat),w.heap[k]? =some (.cells cs t fr)->t≠3->t≠131->t≠153->t≠141->w'.heap[k]? =some (.cells cs t fr)
theorem Keeps.refl(w:World):Keeps w w:=fun k cs t fr h _ _ _ _=>h
theorem Keeps.trans{a b c:World}(h:Keeps a b)(k:Keeps b c):Keeps a c:=fun i cs t fr h0 h1 h2 h3 h4=>k i cs t fr (h i cs t fr h0 h1 h2 h3 h4) h1 h2 h3 h4
theorem keeps_below{w w':World}(hb:Below w.heap.size w w'):Keeps w w':=fun k cs t fr h _ _ _ _=>by rw[hb.block k (Array.getElem?_eq_some_iff.1 h).1];exact h
theorem RXl.keeps{u:TypeId}{base:Nat}{row:Option Nat}{w w':World}(hr:RXl u base row w w')(hu:u=3\/u=131\/u=153):Keeps w w':=fun k cs t fr h h1 h2 h3 _=>hr.heap h (by rcases hu with e|e|e<;>rw[e]<;>assumption)
theorem keeps_stored{w:World}{gb j:Nat}{u:Value}{cs:Array Value}(hrow:w.heap[gb]? =some (.cells cs 141 (0,0))):Keeps w (w.setCell ⟨gb,j,none⟩ u):=fun k cs' t fr h _ _ _ h4=>by
 rw[heap_setCell_other _ _ _ _ (fun e=>by
  rw[e,hrow]at h;injection h with h;injection h with _ h5 _;exact h4 h5.symm)]
 exact h
theorem edge_any(base gb b1 b2 n1 n2:Nat)(D1 D2:DataW Unit)(vW vE vP:Value)(W:List Int)(E P:List (Int×Int))(x y:Int)(w:World)(vX:Value)(L:List Int)(hm:E.length<=900)(h:Gl base gb b1 b2 n1 n2 D1 D2 vW vE vP W E P w)(hX:Side w base vW vX L):
  Calls Tryz.prog 111 #[.pointer (some ⟨gb,0,none⟩),.int .i64 x,.int .i64 y] w fun e w'=>e= .returned (.tuple #[])/\ ∃vE',Gl base gb b1 b2 n1 n2 D1 D2 vW vE' vP W (E++ [(x,y)]) P w'/\Side w' base vW vX L/\Below base w w'/\Keeps w w':=by
 have H:=Lib.hid h;have HX:=Lib.hid hX;have c0:=h.cell 0;have c1:=h.cell 1;have c2:=h.cell 2;have c3:=h.cell 3;have c4:=h.cell 4;simp at c0 c1 c2 c3 c4;have hgl:=h.lt;have hbw:base<=w.heap.size:=by have:=h.le;omega
 clear h hX;go_enter Tryz.func111,Tryz.ntmps111
 go_wp2_with(at_builtin;refine wpList_pushX rfl _ _ 131 53 2 16 (.agg #[.int .i64 0,.int .i64 0]) Tryz.underlying53 edge_cell_info rfl (by omega) (by omega) rfl rfl w base E.length vE (flatE E) [.int .i64 x,.int .i64 y] H.out.hE rfl (by simp[Value.oneCell']) (by omega) hbw rfl rfl ?_;intro F d w' hO hR hat;clear hat;(have hrow:=hR.heap H.out.row (by decide));(have k1:=cell_of_row w' gb 1 _ _ _ hrow);(have z1:=frozen_of_row w' gb 1 _ _ hrow);simp at k1;(have HO:=Lib.hid hO);(have HR:=Lib.hid hR);(have HROW:=Lib.hid hrow);clear hO hR hrow)
 have hS:=H.out.stored (w1:=w') (u:=.slice F (E.length+1) d) (vW':=vW) (vE':=.slice F (E.length+1) d) (vP':=vP) (W':=W) (E':=E++ [(x,y)]) (P':=P) 1 HROW.out rfl (HR.out.own H.out.hW (by decide)) (by unfold OwnE;rw[List.length_append,flatE_append];exact HO.out) (HR.out.own H.out.hP (by decide)) (HR.out.ownsMap H.out.m1) (HR.out.ownsMap H.out.m2)
 go_end0
 exact⟨rfl,_,hS.1,(HX.out.rx HR.out (by decide)).stored HROW.out,(HR.out.below hbw).trans hS.2,(HR.out.keeps (.inr (.inl rfl))).trans (keeps_stored HROW.out)⟩
theorem RXl.far{t:TypeId}{base:Nat}{row:Option Nat}{w w':World}(h:RXl t base row w w'){k:Nat}(hk:k<w.heap.size)(hr:row≠some k):w'.heap[k]? =w.heap[k]?:=by
 rcases h with h|⟨h,_⟩
 ·exact h.block k hk
 ·exact h.block k hk (fun e=>hr e.symm)
structure Gs(base gb b1 b2 n1 n2:Nat)(D1 D2:DataW Unit)(vW vE vP:Value)(W:List Int)(E:List (Int×Int))(w:World):Prop where
 row:w.heap[gb]? =some (.cells #[vW,vE,vP,.map (some b1),.map (some b2)] 141 (0,0))
 hW:OwnI w base vW W
 hE:OwnE w base vE E
 m1:OwnM w b1 n1 D1
 m2:OwnM w b2 n2 D2
section
variable {base gb b1 b2 n1 n2: Nat} {D1 D2: DataW Unit} {vW vE vP: Value} {W: List Int} {E P: List (Int × Int)} {w w': World}
theorem Gl.gs(h:Gl base gb b1 b2 n1 n2 D1 D2 vW vE vP W E P w):Gs base gb b1 b2 n1 n2 D1 D2 vW vE vP W E w:=⟨h.row,h.hW,h.hE,h.m1,h.m2⟩
theorem Gs.rx{b:Nat}{row:Option Nat}(h:Gs base gb b1 b2 n1 n2 D1 D2 vW vE vP W E w)(hr:RXl 153 b row w w'):Gs base gb b1 b2 n1 n2 D1 D2 vW vE vP W E w':=
 ⟨hr.heap h.row (by decide),hr.own h.hW (by decide),hr.own h.hE (by decide),hr.ownsMap h.m1,hr.ownsMap h.m2⟩
end
def NodeF(gb base n:Nat)(vP:Value)(p1 p2:Int)(xs:List Value):Nat->Value->World->Prop
 |0,v,_=>v= .pointer (some ⟨gb,0,none⟩)
 |1,v,_=>v= .pointer (some ⟨gb,0,none⟩)
 |2,v,_=>v= .pointer (some ⟨gb,0,none⟩)
 |3,v,_=>v= .pointer (some ⟨gb,0,none⟩)
 |4,v,_=>v= .pointer (some ⟨gb,2,none⟩)
 |5,v,_=>v=vP
 |6,v,_=>v= .agg #[.int .i64 p1,.int .i64 p2]
 |7,v,w=>OwnX 153 vP.ownBlock [.int .i64 p1,.int .i64 p2] v w
 |8,v,w=>Grew 153 base 2 (n+1) (xs++ [.int .i64 p1,.int .i64 p2]) v w
 |9,v,_=>v= .pointer (some ⟨gb,0,none⟩)
 |10,v,_=>v= .pointer (some ⟨gb,0,none⟩)
 |11,v,_=>v= .pointer (some ⟨gb,2,none⟩)
 |_,_,_=>True
theorem nodeF_rx{gb base n b:Nat}{vP:Value}{p1 p2:Int}{xs:List Value}: ∀(k:Nat) (v:Value) (w w':World),k≠8->NodeF gb base n vP p1 p2 xs k v w->RXl 153 b vP.ownBlock w w'->NodeF gb base n vP p1 p2 xs k v w'
 |0,_,_,_,_,h,_|1,_,_,_,_,h,_|2,_,_,_,_,h,_|3,_,_,_,_,h,_|4,_,_,_,_,h,_|5,_,_,_,_,h,_|6,_,_,_,_,h,_|9,_,_,_,_,h,_|10,_,_,_,_,h,_|11,_,_,_,_,h,_=>h
 |7,_,_,_,_,h,hr=>OwnX.rx h hr
 |8,_,_,_,hne,_,_=>absurd rfl hne
 |_+12,_,_,_,_,_,_=>trivial
theorem gr_storeP{o:Oper}{a:Act}{x:World}{base gb b1 b2 n1 n2:Nat}{D1 D2:DataW Unit}{vW vE vP:Value}{W:List Int}{E P:List (Int×Int)}{p:Int×Int}{w:World}{K:Act->World->Prop}{Q:Exit->Act->World->Prop}(s y:Operand)(hop:o.op= .store 89 s y)(hdst:o.dst=none)
  (hG:Gl base gb b1 b2 n1 n2 D1 D2 vW vE vP W E P w) (hO:Gs base gb b1 b2 n1 n2 D1 D2 vW vE vP W E x) (f1:Grew 153 base 2 (P.length+1) (flatE P++ [.int .i64 p.1,.int .i64 p.2]) (a.eval y) x) (f2:a.eval s= .pointer (some ⟨gb,2,none⟩)) {vX:Value} {L:List Int} (hX:Side x base vW vX L)
  (hK: ∀F d x',a.eval y= .slice F (P.length+1) d->Gl base gb b1 b2 n1 n2 D1 D2 vW vE (.slice F (P.length+1) d) W E (P++ [p]) x'->Side x' base vW vX L->Below base x x'->Keeps x x'->K a x'):o.wp Tryz.prog a x K Q:=by
 obtain⟨F,d,e,ho⟩:=f1;have hg:=hO.row;have d2:=cell_of_row x gb 2 _ _ _ hg;have z2:=frozen_of_row x gb 2 _ _ hg;simp at d2;have hr:(execOp a.eval o).run Tryz.prog x= .ok .skip (x.setCell ⟨gb,2,none⟩ (.slice F (P.length+1) d)):=by
  simp only[execOp,hop];rw[e,f2];simp[go_sem,d2,z2]
 have hS:=hG.stored (w1:=x) (u:=.slice F (P.length+1) d) (vW':=vW) (vE':=vE) (vP':=.slice F (P.length+1) d) (W':=W) (E':=E) (P':=P++ [p]) 2 hg rfl hO.hW hO.hE (by unfold OwnP;rw[List.length_append,flatE_append];exact ho) hO.m1 hO.m2
 unfold Oper.wp;rw[hr,Oper.upon_skip,hdst];exact hK F d _ e hS.1 (hX.stored hg) hS.2 (keeps_stored hg)
theorem gnode_any(base gb b1 b2 n1 n2:Nat)(D1 D2:DataW Unit)(vW vE vP:Value)(W:List Int)(E P:List (Int×Int))(p1 p2 k:Int)(w:World)(vX:Value)(L:List Int)(hn:W.length<=900)(hm:P.length<=900)(h:Gl base gb b1 b2 n1 n2 D1 D2 vW vE vP W E P w)(hX:Side w base vW vX L):
    Calls Tryz.prog 149 #[.pointer (some ⟨gb,0,none⟩), .agg #[.int .i64 p1, .int .i64 p2], .int .i64 k] w fun e w'=>e= .returned (.int .i64 (P.length:Nat))/\ ∃vW' vP',Gl base gb b1 b2 n1 n2 D1 D2 vW' vE vP' (W++ [k]) E (P++ [(p1,p2)]) w'/\Side w' base vW' vX L/\Below base w w'/\Keeps w w':=by
  have hbw:base<=w.heap.size:=by have:=h.le;have:=h.lt;omega
  obtain⟨wA,hwA⟩: ∃wA,wA=w.alloc (.cells #[.int .i64 p1, .int .i64 p2] 153):=⟨_,rfl⟩;have hbA:Below w.heap.size w wA:=by rw[hwA];exact below_alloc _
  have hqA:wA.heap[w.heap.size]? =some (.cells #[.int .i64 p1, .int .i64 p2] 153 (0,0)):=by rw[hwA];exact heap_alloc_new w _
  have hvP: ∀b,vP.ownBlock=some b->b<w.heap.size:=fun b hb=>(row_lt h.hP b hb).2.1
  have HA:=Lib.hid (h.below hbA);have HX:=Lib.hid (hX.below hbA);have HBA:=Lib.hid hbA;have HQ:=Lib.hid hqA;have HVP:=Lib.hid hvP;clear h hX hbA hqA hvP;go_enter Tryz.func149,Tryz.ntmps149;go_wp2_with fail;rw[<-hwA];clear hwA;refine wp_region_gather2' 12 8 [7,8,9,10,11,12,13,14,15,16,17,18] (by kernel_rfl) (by kernel_rfl) (by intro d hd;simp at hd⊢;omega) (fun x=>Below base wA x/\Gs base gb b1 b2 n1 n2 D1 D2 vW vE vP W E x/\x.heap[w.heap.size]? =some (.cells #[.int .i64 p1, .int .i64 p2] 153 (0,0))/\Side x base vW vX L/\Keeps wA x) (fun x=>OwnP x base vP P) (RXl 153 base vP.ownBlock) (NodeF gb base P.length vP p1 p2 (flatE P))
    (fun _ _ h=> .inl h) (fun x y h hr=>⟨h.1.trans (hr.below (by have:=h.1.size;have:=HBA.out.size;omega)),h.2.1.rx hr,by rw[hr.far (Array.getElem?_eq_some_iff.1 h.2.2.1).1 (fun e=>by have:=HVP.out _ e;omega)];exact h.2.2.1,h.2.2.2.1.rx hr (by decide),h.2.2.2.2.trans (hr.keeps (.inr (.inr rfl)))⟩) (fun _ _ h hb=>own_below h hb) (fun k v x y hk h hr=>nodeF_rx k v x y hk h hr) (fun v x y h hb=>Grew.below h hb)
    ⟨(Below.refl _ _).drew,HA.out.gs.rx (b:=base) (row:=none) (.inl (Below.refl _ _).drew),HQ.out,HX.out.below (Below.refl _ _).drew,keeps_below (Below.refl _ _).drew⟩ (own_below HA.out.hP (Below.refl _ _).drew) ?hstep ?hlast
  case hstep=>
    intro j o hj ho ρ x hI hA hd hJ;have h0:ρ (.tmp 0)= .pointer (some ⟨gb,0,none⟩):=hA.tmp 0 (by decide)
    have h4:ρ (.tmp 4)= .pointer (some ⟨w.heap.size,0,none⟩):=hA.tmp 4 (by decide)
    have hc2:x.cell? ⟨gb,2,none⟩=some vP:=by rw[cell_of_row _ _ _ _ _ _ hI.2.1.row];rfl
    have q0:x.cell? ⟨w.heap.size,0,none⟩=some (.int .i64 p1):=by rw[cell_of_row _ _ _ _ _ _ hI.2.2.1];rfl
    have q1:x.cell? ⟨w.heap.size,1,none⟩=some (.int .i64 p2):=by rw[cell_of_row _ _ _ _ _ _ hI.2.2.1];rfl
    have hsz:base<=x.heap.size:=by have:=hI.1.size;have:=HBA.out.size;omega
    have hgt:w.heap.size<x.heap.size:=(Array.getElem?_eq_some_iff.1 hI.2.2.1).1
    match j,hj with
    | 0, _ =>
      have hoo:=Option.some.inj ho;subst hoo;exact⟨.pointer (some ⟨gb,0,none⟩),x,by simp[execOp,h0,go_sem],rfl,Below.refl _ _⟩
    | 1, _ =>
      have hoo:=Option.some.inj ho;subst hoo;exact⟨.pointer (some ⟨gb,0,none⟩),x,by simp[execOp,h0,go_sem],rfl,Below.refl _ _⟩
    | 2, _ =>
      have hoo:=Option.some.inj ho;subst hoo;have f:ρ (.tmp 8)= .pointer (some ⟨gb,0,none⟩):=hd ⟨1, .data⟩ (by simp) (by rfl)
      exact⟨.pointer (some ⟨gb,0,none⟩),x,by simp[execOp,f,go_sem],rfl,Below.refl _ _⟩
    | 3, _ =>
      have hoo:=Option.some.inj ho;subst hoo;have f:ρ (.tmp 9)= .pointer (some ⟨gb,0,none⟩):=hd ⟨2, .data⟩ (by simp) (by rfl)
      exact⟨.pointer (some ⟨gb,0,none⟩),x,by simp[execOp,f,go_sem],rfl,Below.refl _ _⟩
    | 4, _ =>
      have hoo:=Option.some.inj ho;subst hoo;have f:ρ (.tmp 10)= .pointer (some ⟨gb,0,none⟩):=hd ⟨3, .data⟩ (by simp) (by rfl)
      exact⟨.pointer (some ⟨gb,2,none⟩),x,by simp[execOp,f,go_sem],rfl,Below.refl _ _⟩
    | 5, _ =>
      have hoo:=Option.some.inj ho;subst hoo;have f:ρ (.tmp 11)= .pointer (some ⟨gb,2,none⟩):=hd ⟨4, .data⟩ (by simp) (by rfl)
      exact⟨vP,x,by simp[execOp,f,hc2,go_sem],rfl,Below.refl _ _⟩
    | 6, _ =>
      have hoo:=Option.some.inj ho;subst hoo;exact⟨.agg #[.int .i64 p1, .int .i64 p2],x,by simp[execOp,h4,q0,q1,go_sem],rfl,Below.refl _ _⟩
    | 7, _ =>
      have hoo:=Option.some.inj ho;subst hoo;have f:ρ (.tmp 13)= .agg #[.int .i64 p1, .int .i64 p2]:=hd ⟨6, .data⟩ (by simp) (by rfl)
      exact⟨.slice (some ⟨x.heap.size,0,none⟩) 1 1,x.alloc (.cells #[.int .i64 p1, .int .i64 p2] 153),by simp[execOp,f,go_sem],⟨_,rfl,heap_alloc_new x _,fun e=>by have:=HVP.out _ e;omega⟩,below_alloc _⟩
    | 8, _ =>
      have hoo:=Option.some.inj ho;subst hoo;have f5:ρ (.tmp 12)=vP:=hd ⟨5, .data⟩ (by simp) (by rfl)
      have f7:OwnX 153 vP.ownBlock [.int .i64 p1, .int .i64 p2] (ρ (.tmp 14)) x:=hd ⟨7, .data⟩ (by simp) (by rfl)
      obtain⟨u',w2,hr,how,hrb,_⟩:=ownX_append (tl:=89) Tryz.underlying89 piece_info rfl (by omega) (by omega) (hJ rfl) f7 rfl (by simp[Value.oneCell']) (by omega) hsz
      exact⟨u',w2,by simp[execOp,resolve,invoke,builtin,f5,hr,Result.andThen],how,hrb⟩
    | 9, _ =>
      have hoo:=Option.some.inj ho;subst hoo;have f:ρ (.tmp 7)= .pointer (some ⟨gb,0,none⟩):=hd ⟨0, .data⟩ (by simp) (by rfl)
      exact⟨.pointer (some ⟨gb,0,none⟩),x,by simp[execOp,f,go_sem],rfl,Below.refl _ _⟩
    | 10, _ =>
      have hoo:=Option.some.inj ho;subst hoo;have f:ρ (.tmp 16)= .pointer (some ⟨gb,0,none⟩):=hd ⟨9, .data⟩ (by simp) (by rfl)
      exact⟨.pointer (some ⟨gb,0,none⟩),x,by simp[execOp,f,go_sem],rfl,Below.refl _ _⟩
    | 11, _ =>
      have hoo:=Option.some.inj ho;subst hoo;have f:ρ (.tmp 17)= .pointer (some ⟨gb,0,none⟩):=hd ⟨10, .data⟩ (by simp) (by rfl)
      exact⟨.pointer (some ⟨gb,2,none⟩),x,by simp[execOp,f,go_sem],rfl,Below.refl _ _⟩
    |j+12,hk=>omega
  case hlast=>
    intro o ho vals x hI hF;have hoo:=Option.some.inj ho;subst hoo;have f8:Grew 153 base 2 (P.length+1) (flatE P++ [.int .i64 p1, .int .i64 p2]) (vals 15) x:=hF 8 (by decide)
    have f11:vals 18= .pointer (some ⟨gb,2,none⟩):=hF 11 (by decide)
    refine gr_storeP (p:=(p1,p2)) (.tmp 18) (.tmp 15) rfl rfl HA.out hI.2.1 f8 f11 hI.2.2.2.1 ?_
    intro F d x' e15 hG hS0 hb hkp;have HKP:=Lib.hid ((keeps_below HBA.out).trans (hI.2.2.2.2.trans hkp));have HS0:=Lib.hid hS0;have HG:=Lib.hid hG;have HB:=Lib.hid (hI.1.trans hb);have c0:=hG.cell 0;simp at c0;have hsz:base<=x'.heap.size:=by have:=HB.out.size;have:=HBA.out.size;omega
    have hgl:=hG.lt;clear hG hS0 hb hkp hI hF f8 f11 e15;simp only[fillA,fillL,List.contains_cons,List.contains_nil,Nat.reduceBEq,Bool.or_false,Bool.false_or,Bool.or_true,Bool.true_or,cond_true,cond_false,Nat.zero_add,Nat.reduceAdd]
    go_wp2_with(at_builtin;refine wpList_pushX rfl _ _ 3 40 1 8 (.int .i64 0) Tryz.underlying40 int_cell_info rfl (by omega) (by omega) rfl rfl x' base W.length vW (W.map (Value.int .i64)) [.int .i64 k] HG.out.hW rfl (by simp[Value.oneCell']) (by omega) hsz rfl rfl ?_;intro F2 d2 w2 hO hR hat;(have HAT:=Lib.hid hat);clear hat;(have hrow:=hR.heap HG.out.row (by decide));(have k0:=cell_of_row w2 gb 0 _ _ _ hrow);(have k2:=cell_of_row w2 gb 2 _ _ _ hrow);(have z0:=frozen_of_row w2 gb 0 _ _ hrow);simp at k0 k2;(have HO:=Lib.hid hO);(have HR:=Lib.hid hR);(have HROW:=Lib.hid hrow);clear hO hR hrow c0)
    have hS:=HG.out.stored (w1:=w2) (u:= .slice F2 (W.length+1) d2) (vW':= .slice F2 (W.length+1) d2) (vE':=vE) (vP':= .slice F (P.length+1) d) (W':=W++ [k]) (E':=E) (P':=P++ [(p1,p2)]) 0 HROW.out rfl (by unfold OwnI;rw[List.length_append,List.map_append];exact HO.out) (HR.out.own HG.out.hE (by decide)) (HR.out.own HG.out.hP (by decide)) (HR.out.ownsMap HG.out.m1) (HR.out.ownsMap HG.out.m2)
    go_ret;exact⟨by go_num,_,_,hS.1,(HS0.out.grew HR.out HAT.out).stored HROW.out,((HBA.out.mono hbw).trans (HB.out.trans ((HR.out.below hsz).trans hS.2))),HKP.out.trans ((HR.out.keeps (.inl rfl)).trans (keeps_stored HROW.out))⟩
end Go.Proofs.YtlfekmbalgkmeaaGreatDoor
namespace Go.Proofs.YtlfekmbalgkmeaaGreatDoor
open Go.RowKit Go.Maps Go.MapKept Go.ChangeMaps Go.WideElems
theorem wfI{x:Int}(h1: -9223372036854775808<=x)(h2:x<=9223372036854775807):(Lit.int .i64 x).wf=true:=WalkArith.wf_i64 ⟨h1,h2⟩
theorem own_not_map{w:World}{base:Nat}{t:TypeId}{s n:Nat}{v:Value}{xs:List Value}{b m:Nat}{D:DataW Unit}(ho:w.ownsRow base t s v n xs)(hm:OwnM w b m D):v.ownBlock≠some b:=fun e=>by
 obtain⟨_,_,cs,fr,h1⟩:=row_lt ho b e;obtain⟨es,clock,h2,_⟩:=hm;rw[h1]at h2;injection h2 with h2;cases h2
theorem own_mapped{w w':World}{base:Nat}{t:TypeId}{s n:Nat}{v:Value}{xs:List Value}{b m:Nat}{D:DataW Unit}(ho:w.ownsRow base t s v n xs)(hm:OwnM w b m D)(hg:w.grownBy w' (some b)):w'.ownsRow base t s v n xs:=
 ho.kept hg (by
  cases hv:v.ownBlock with
  |none=>exact .inl rfl
  |some k=>exact .inr (fun e=>own_not_map ho hm (by rw[hv,e])))
theorem mapped_below{w w':World}{base b:Nat}(hb:base<=b)(hg:w.grownBy w' (some b))(hw:base<=w.heap.size):Below base w w':=
 ⟨hg.os,hg.tape,hg.output,hg.size,fun k hk=>hg.block k (by omega) (fun e=>by have:=Option.some.inj e;omega)⟩
section
variable {base gb b1 b2 n1 n2 n': Nat} {D1 D2 D': DataW Unit} {vW vE vP: Value} {W: List Int} {E P: List (Int × Int)} {w w': World}
theorem Gl.mapped1(h:Gl base gb b1 b2 n1 n2 D1 D2 vW vE vP W E P w)(hg:w.grownBy w' (some b1))(hm:OwnM w' b1 n' D'):Gl base gb b1 b2 n' n2 D' D2 vW vE vP W E P w':=
 ⟨by rw[hg.block gb h.lt (fun e=>h.nm1 (Option.some.inj e).symm)];exact h.row,h.le,h.le1,h.le2,h.ne,own_mapped h.hW h.m1 hg,own_mapped h.hE h.m1 hg,own_mapped h.hP h.m1 hg,hm,h.m2.kept hg (fun e=>h.ne (Option.some.inj e).symm)⟩
theorem Gl.mapped2(h:Gl base gb b1 b2 n1 n2 D1 D2 vW vE vP W E P w)(hg:w.grownBy w' (some b2))(hm:OwnM w' b2 n' D'):Gl base gb b1 b2 n1 n' D1 D' vW vE vP W E P w':=
 ⟨by rw[hg.block gb h.lt (fun e=>h.nm2 (Option.some.inj e).symm)];exact h.row,h.le,h.le1,h.le2,h.ne,own_mapped h.hW h.m2 hg,own_mapped h.hE h.m2 hg,own_mapped h.hP h.m2 hg,h.m1.kept hg (fun e=>h.ne (Option.some.inj e)),hm⟩
theorem Side.mapped{b m:Nat}{D:DataW Unit}{vX:Value}{L:List Int}(h:Side w base vW vX L)(hm:OwnM w b m D)(hg:w.grownBy w' (some b)):Side w' base vW vX L:=⟨own_mapped h.own hm hg,h.apart⟩
end
theorem setBlock_two(w:World)(b:Nat)(o o':Obj):setBlock (setBlock w b o) b o'=setBlock w b o':=by
 unfold setBlock;simp
theorem map_put{w:World}{b n:Nat}{D:DataW Unit}(h:OwnM w b n D)(hn:n<=100000){x v:Int}(hx1: -9223372036854775808<=x)(hx2:x<=9223372036854775807)(hv1: -9223372036854775808<=v)(hv2:v<=9223372036854775807):
  ∃w',(Instr.mapUpdate 139 (.map (some b)) (.int .i64 x) (.int .i64 v)).run Tryz.prog w= .ok () w'/\OwnM w' b (n+1) (D.put (.int .i64 x) (.lit (.int .i64 v)))/\w.grownBy w' (some b):=
 h.update law_int Tryz.underlying139 (by unfold maxLen;omega) (key_int hx1 hx2) (plainElem_int Tryz.underlying3 (wfI hv1 hv2))
theorem entry_put{w:World}{b n:Nat}{D:DataW Unit}(h:OwnM w b n D)(hn:n<=100000){x v:Int}(hx1: -9223372036854775808<=x)(hx2:x<=9223372036854775807)(hv1: -9223372036854775808<=v)(hv2:v<=9223372036854775807):
  ∃(v0:Value) (st:Nat) (w1 w2:World),(Instr.mapEntry 139 (.map (some b)) (.int .i64 x)).run Tryz.prog w= .ok (.tuple #[v0,.int .i64 (st:Int)]) w1/\(Instr.entryStore 139 (.map (some b)) (.int .i64 (st:Int)) (.int .i64 v)).run Tryz.prog w1= .ok () w2/\
   OwnM w2 b (n+1) (D.put (.int .i64 x) (.lit (.int .i64 v)))/\w.grownBy w2 (some b):=by
 obtain⟨w',hu,hm',hg⟩:=map_put h hn hx1 hx2 hv1 hv2;have hkey:=key_int hx1 hx2;have ht:=Tryz.underlying139;obtain⟨es,clock,hb,F,hs,hD⟩:=h;obtain⟨s1,s2,_⟩:=F.stamped;rcases law_int.find w hkey es.toList F.keys with⟨h1,h2⟩|⟨j,e0,h1,h2,h3⟩
 ·have e3: (Instr.mapUpdate 139 (.map (some b)) (.int .i64 x) (.int .i64 v)).run Tryz.prog w = .ok () (setBlock w b (.map (es.push ⟨.int .i64 x,.int .i64 v,clock⟩) (clock + 1))):=by
   simp[Instr.mapUpdate,run_underlying ht,MapKept.run_getObj_map hb,law_int.check w false hkey,h1,MapKept.run_setObj_map _ hb,Result.andThen,setBlock]
  have hb1:(setBlock w b (.map (es.push ⟨.int .i64 x,.int .i64 0,clock⟩) (clock+1))).heap[b]? =some (.map (es.push ⟨.int .i64 x,.int .i64 0,clock⟩) (clock+1)):=heap_setBlock_same hb _
  have hidx:(es.push ⟨.int .i64 x,.int .i64 0,clock⟩).findIdx? (fun e=>((e.born:Nat):Int)==((clock:Nat):Int))=some es.size:=by
   rw[findIdx_arr];refine findIdx_born (l:=(es.push ⟨.int .i64 x,.int .i64 0,clock⟩).toList) (j:=es.size) (e0:=⟨.int .i64 x,.int .i64 0,clock⟩) ?_ (by simp)
   simp only[Array.toList_push,List.map_append,List.map_cons,List.map_nil];refine List.nodup_append.2 ⟨s2,by simp,fun a ha c hc e=> ?_⟩
   obtain⟨y,hy,rfl⟩:=List.mem_map.1 ha;have:=s1 y hy;have hc':c=clock:=by simpa using hc
   omega
  have hmod:(es.push ⟨.int .i64 x,.int .i64 0,clock⟩).modify es.size (fun e=>{e with val:=.int .i64 v})=es.push ⟨.int .i64 x,.int .i64 v,clock⟩:=by
   apply Array.ext'
   rw[Array.toList_modify,Array.toList_push,Array.toList_push,<-Array.length_toList,modify_last]
  refine⟨.int .i64 0,clock,setBlock w b (.map (es.push ⟨.int .i64 x,.int .i64 0,clock⟩) (clock+1)),w',?_,?_,hm',hg⟩
  ·simp[Instr.mapEntry,run_underlying ht,MapKept.run_getObj_map hb,law_int.check w false hkey,h1,zero_intL,MapKept.run_setObj_map _ hb,Result.andThen,setBlock,goInt]
  ·have hw: w' = setBlock w b (.map (es.push ⟨.int .i64 x,.int .i64 v,clock⟩) (clock + 1)):=by
    rw[hu]at e3;injection e3
   have e4: ∀wz:World,wz.heap[b]? =some (.map (es.push ⟨.int .i64 x,.int .i64 0,clock⟩) (clock+1))->(Instr.entryStore 139 (.map (some b)) (.int .i64 (clock:Int)) (.int .i64 v)).run Tryz.prog wz= .ok () (setBlock wz b (.map (es.push ⟨.int .i64 x,.int .i64 v,clock⟩) (clock+1))):=fun wz hz=>by
    simp[Instr.entryStore,MapKept.run_getObj_map hz,asInt,asIntOf,hidx,hmod,MapKept.run_setObj_map _ hz,Result.andThen,setBlock]
   rw[e4 _ hb1,setBlock_two,hw]
 ·have hj: es[j]? = some e0:=by simpa using h2
  have hsame:es.modify j (fun e=>{e with key:=.int .i64 x})=es:=by
   apply Array.ext'
   rw[Array.toList_modify,modify_eq_set _ _ _ _ h2,show({e0 with key:=.int .i64 x}:MapEntry)=e0 by rw[<-h3]]
   exact set_self _ _ _ h2
  have e3:(Instr.mapUpdate 139 (.map (some b)) (.int .i64 x) (.int .i64 v)).run Tryz.prog w= .ok () (setBlock w b (.map (es.modify j (fun e'=>{e' with key:=.int .i64 x,val:=.int .i64 v})) clock)):=by
   simp[Instr.mapUpdate,run_underlying ht,MapKept.run_getObj_map hb,law_int.check w false hkey,h1,hj,h3,law_int.stays w hkey,MapKept.run_setObj_map _ hb,Result.andThen,setBlock]
  have hb1:(setBlock w b (.map es clock)).heap[b]? =some (.map es clock):=heap_setBlock_same hb _
  have hidx:es.findIdx? (fun e=>((e.born:Nat):Int)==((e0.born:Nat):Int))=some j:=by
   rw[findIdx_arr];exact findIdx_born s2 h2
  have hmod:es.modify j (fun e=>{e with val:=.int .i64 v})=es.modify j (fun e'=>{e' with key:=.int .i64 x,val:=.int .i64 v}):=by
   apply Array.ext'
   rw[Array.toList_modify,Array.toList_modify,modify_eq_set _ _ _ _ h2,modify_eq_set _ _ _ _ h2,<-h3]
  refine⟨e0.val,e0.born,setBlock w b (.map es clock),w',?_,?_,hm',hg⟩
  ·simp[Instr.mapEntry,run_underlying ht,MapKept.run_getObj_map hb,law_int.check w false hkey,h1,hj,h3,law_int.stays w hkey,hsame,MapKept.run_setObj_map _ hb,Result.andThen,setBlock,goInt]
  ·have hw: w' = setBlock w b (.map (es.modify j (fun e' => { e' with key:=.int .i64 x,val:=.int .i64 v })) clock):=by
    rw[hu]at e3;injection e3
   have e4: ∀wz:World,wz.heap[b]? =some (.map es clock)->(Instr.entryStore 139 (.map (some b)) (.int .i64 (e0.born:Int)) (.int .i64 v)).run Tryz.prog wz= .ok () (setBlock wz b (.map (es.modify j (fun e'=>{e' with key:=.int .i64 x,val:=.int .i64 v})) clock)):=fun wz hz=>by
    simp[Instr.entryStore,MapKept.run_getObj_map hz,asInt,asIntOf,hidx,hmod,MapKept.run_setObj_map _ hz,Result.andThen,setBlock]
   rw[e4 _ hb1,setBlock_two,hw]
end Go.Proofs.YtlfekmbalgkmeaaGreatDoor
