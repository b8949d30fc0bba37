import Derived.Test.YtfahabphncmbfaaGreatDoorZQ18
import Derived.Test.YtfahabphncmbfaaGreatDoorZQ22
set_option linter.all false
namespace Go.Proofs.YtfahabphncmbfaaGreatDoor
open Go Go.RowKit
open _root_.Array renaming getElem?_eq_some_iff→Zk
open Go.Proofs.Tryz renaming prog→Zg
def Zcz(u v:Value):Prop:=∀ b,u.ownBlock=some b->v.ownBlock≠some b
theorem OwnI.blockLt{w:World}{base:Nat}{v:Value}{zs:List Int}(h:OwnI w base v zs):∀b,v.ownBlock=some b->base<=b/\b<w.heap.size:=by
 intro b hb;rcases h.2 with⟨rfl,_⟩|⟨g,cap,cur,rfl,hg,hgg,_⟩
 ·simp[Value.ownBlock]at hb
 ·obtain rfl: g = b:=by simpa [Value.ownBlock] using hb
  exact⟨hg,(Zk.1 hgg).1⟩
section
variable {P: Program}{Q: Exit -> Act -> World -> Prop}
end
def GNc(hb:Nat)(v:Value)(w:World):Prop:=∃ g,v=.pointer (some ⟨g,0,none⟩)/\hb<=g/\w.heap[g]?=some (.cells #[.slice none 0 0,.slice none 0 0] 37 (0,0))
theorem GNc.below{hb:Nat}{v:Value}{w w':World}(h:GNc hb v w)(hb':Below w.heap.size w w'):GNc hb v w':=by obtain⟨g,h1,h2,h3⟩:=h;exact⟨g,h1,h2,by rw[hb'.block _ (Zk.1 h3).1];exact h3⟩
def GBc(hb:Nat)(n m:Nat)(O L:List Int)(v:Value)(w:World):Prop:=∃ A1 c1 F1 d1,v=.agg #[.slice A1 n c1,.slice F1 m d1]/\OwnI w hb (.slice A1 n c1) O/\OwnI w hb (.slice F1 m d1) L/\(0<m->Zcz (.slice A1 n c1) (.slice F1 m d1))
theorem GBc.below{hb n m:Nat}{O L:List Int}{v:Value}{w w':World}(h:GBc hb n m O L v w)(hb':Below w.heap.size w w'):GBc hb n m O L v w':=by obtain⟨A1,c1,F1,d1,h1,h2,h3,h4⟩:=h;exact⟨A1,c1,F1,d1,h1,Zac h2 hb',Zac h3 hb',h4⟩
structure StC(hb g gO:Nat)(FL:Option Addr)(n m cO cL:Nat)(O L:List Int)(w:World):Prop where
 x:w.heap[g]?=some (.cells #[.slice (some ⟨gO,0,none⟩) n cO,.slice FL m cL] 37 (0,0))
 rO:OwnI w hb (.slice (some ⟨gO,0,none⟩) n cO) O
 rL:OwnI w hb (.slice FL m cL) L
 ne:0<m->∃gL,FL=some ⟨gL,0,none⟩/\gO≠gL
section
variable {hb g gO: Nat}{FL: Option Addr}{n m cO cL: Nat}{O L: List Int}{w w': World}
theorem StC.next(h:StC hb g gO FL n m cO cL O L w)(hb':Below w.heap.size w w'):StC hb g gO FL n m cO cL O L w':=
 ⟨by rw[hb'.block _ (Zk.1 h.x).1];exact h.x,Zac h.rO hb',Zac h.rL hb',h.ne⟩
theorem StC.x0(h:StC hb g gO FL n m cO cL O L w):w.cell? ⟨g,0,none⟩=some (.slice (some ⟨gO,0,none⟩) n cO):=by rw[cell_of_row _ _ _ _ _ _ h.x];rfl
theorem StC.x1(h:StC hb g gO FL n m cO cL O L w):w.cell? ⟨g,1,none⟩=some (.slice FL m cL):=by rw[cell_of_row _ _ _ _ _ _ h.x];rfl
theorem StC.blocks(h:StC hb g gO FL n m cO cL O L w):g≠gO/\∀gL,FL=some ⟨gL,0,none⟩->g≠gL:=by
 obtain⟨cur,h1,_⟩:=h.rO.blockC;constructor
 ·rintro rfl
  have:=h.x;rw[h1]at this;injection this with this;injection this with _ h3 _;exact Za h3
 ·rintro gL rfl rfl
  obtain⟨cur2,h2,_⟩:=h.rL.blockC;have:=h.x;rw[h2]at this;injection this with this;injection this with _ h3 _;exact Za h3
theorem StC.isC(h:StC hb g gO FL n m cO cL O L w)(l1:n<=400)(l2:m<=400):IsC w (some ⟨gO,0,none⟩) n cO FL m cL O L:=
 ZjU h.rO h.rL h.rO.len_eq h.rL.len_eq l1 l2
end
def ThC(wd:World)(slot n m:Nat)(O L:List Int)(f:Nat->Value)(w:World):Prop:=∃ g gO FL cO cL,f slot=.pointer (some ⟨g,0,none⟩)/\Below wd.heap.size wd w/\wd.heap.size<=g/\StC wd.heap.size g gO FL n m cO cL O L w
theorem ThC.slot{wd w:World}{slot n m:Nat}{O L:List Int}{f f':Nat->Value}(h:ThC wd slot n m O L f w)(e:f slot=f' slot):ThC wd slot n m O L f' w:=by obtain⟨g,gO,gL,cO,cL,h1,h2⟩:=h;exact⟨g,gO,gL,cO,cL,e▸h1,h2⟩
theorem ThC.below{wd w w':World}{slot n m:Nat}{O L:List Int}{f:Nat->Value}(h:ThC wd slot n m O L f w)(hb:Below w.heap.size w w'):ThC wd slot n m O L f w':=by obtain⟨g,gO,gL,cO,cL,h1,h2,h3,h4⟩:=h;exact⟨g,gO,gL,cO,cL,h1,h2.trans (hb.mono h2.size),h3,h4.next hb⟩
theorem stC{o:Oper}{a:Act}{w wd:World}{K:Act->World->Prop}{Q:Exit->Act->World->Prop}{slot n m:Nat}{s y:Operand}{O L:List Int}(hop:o.op=.store 37 s y)(hdst:o.dst=none)
  (hs:a.eval s=a.eval (.tmp slot))(h9:GNc wd.heap.size (a.eval (.tmp slot)) w)(h7:GBc wd.heap.size n m O L (a.eval y) w)(hn:0<n)(hb:Below wd.heap.size wd w)(hK:∀w',ThC wd slot n m O L (fun t=>a.eval (.tmp t)) w'->wd.heap.size<=w'.heap.size->(∀v,NewR 3 w wd.heap.size v->NewR 3 w' wd.heap.size v)->K a w'):o.wp Zg a w K Q:=by
 obtain⟨g,q9,hg1,hg2⟩:=h9;obtain⟨A1,c1,F1,d1,q7,hO,hL,hap⟩:=h7;obtain⟨bO,rfl⟩:∃b,A1=some ⟨b,0,none⟩:=by
  rcases hO.2 with⟨e,h0⟩|⟨b,cap,cur,e,_⟩
  ·injection e with _ e2 _;omega
  ·injection e with e1 _ _;exact⟨b,e1⟩
 have hne:0<m->∃gL,F1=some ⟨gL,0,none⟩/\bO≠gL:=fun hm=>by
  obtain⟨bL,rfl⟩:∃b,F1=some ⟨b,0,none⟩:=by
   rcases hL.2 with⟨e,h0⟩|⟨b,cap,cur,e,_⟩
   ·injection e with _ e2 _;omega
   ·injection e with e1 _ _;exact⟨b,e1⟩
  exact⟨bL,rfl,fun e=>hap hm bO rfl (by rw[e];rfl)⟩
 have hoth:=Zcd w g (.slice (some ⟨bO,0,none⟩) n c1) (.slice F1 m d1);refine ZnM (g:=g) (u:=.slice (some ⟨bO,0,none⟩) n c1) (v:=.slice F1 m d1) hop hdst (hs.trans q9) q7 ⟨_,_,_,_,_,_,rfl,rfl⟩ hg2 (hK _ ⟨g,bO,F1,c1,d1,q9,hb.trans (ZcI hg1 _ _),hg1,Zeo hg2 _ _,Zbl hO hg2 (by decide) hoth,Zbl hL hg2 (by decide) hoth,hne⟩ (by rw[ZnL];exact hb.size) ?_);rintro v ⟨gn,e,hgn,hbn⟩;refine⟨gn,e,?_,hbn⟩;rw[hoth gn (fun e2=>by subst e2;rw[hg2]at hgn;injection hgn with hgn;injection hgn with _ h3 _;exact Za h3)]
 exact hgn
theorem Zf7{P:Program}{t:TypeId}{z:Value}{s b:Nat}(h:(P.info? t).map (fun i=>(i.zero,i.size,i.bytes))=some (some z,s,b)):∃i,P.info? t=some i/\i.zero=some z/\i.size=s/\i.bytes=b:=by
  cases hi:P.info? t with
  |none=>rw[hi]at h;cases h
  | some i =>rw[hi]at h;simp at h;exact⟨i,rfl,h.1,h.2.1,h.2.2⟩
def RXs(t:TypeId)(base:Nat)(row:Option Nat)(w w':World):Prop:=
 Below w.heap.size w w'\/(w.grownBy w' row/\∀b,row=some b->base<=b/\∃cs fr,w.heap[b]?=some (.cells cs t fr))
theorem RXs.size{t:TypeId}{base:Nat}{row:Option Nat}{w w':World}(h:RXs t base row w w'):w.heap.size<=w'.heap.size:=by
 rcases h with h|⟨h,_⟩
 ·exact h.size
 ·exact h.size
theorem RXs.heap{u:TypeId}{base:Nat}{row:Option Nat}{w w':World}(h:RXs u base row w w'){k:Nat}{cs:Array Value}{t:TypeId}{fr:Nat×Nat}(hk:w.heap[k]?=some (.cells cs t fr))(ht:t≠u):w'.heap[k]?=some (.cells cs t fr):=by
 have hlt:k<w.heap.size:=(Zk.1 hk).1;rcases h with h|⟨h,h2⟩
 ·rw[h.block k hlt];exact hk
 ·rw [h.block k hlt (fun e => by
   obtain⟨_,cs',fr',h3⟩:=h2 k e.symm;rw[hk]at h3;injection h3 with h3;injection h3 with _ h4 _;exact ht h4)]
  exact hk
theorem RXs.own{u:TypeId}{base base':Nat}{row:Option Nat}{w w':World}(h:RXs u base row w w'){t:TypeId}{s n:Nat}{v:Value}{xs:List Value}(ho:w.ownsRow base' t s v n xs)(ht:t≠u):w'.ownsRow base' t s v n xs:=by
 refine⟨ho.1,?_⟩;rcases ho.2 with hn|⟨g,cap,cur,rfl,hg,hgg,rest⟩
 ·exact .inl hn
 ·exact .inr ⟨g,cap,cur,rfl,hg,h.heap hgg ht,rest⟩
theorem RXs.below{t:TypeId}{base:Nat}{row:Option Nat}{w w':World}(h:RXs t base row w w')(hb:base<=w.heap.size):Below base w w':=by
 rcases h with h|⟨h,h2⟩
 ·exact h.mono hb
 ·refine ⟨h.os,h.tape,h.output,h.size,fun k hk => h.block k (by omega) (fun e => ?_)⟩
  have:=(h2 k e.symm).1;omega
def OwnXs(t:TypeId)(row:Option Nat)(news:List Value)(v:Value)(w:World):Prop:=
 ∃h,v=.slice (some ⟨h,0,none⟩) 1 1/\w.heap[h]?=some (.cells news.toArray t (0,0))/\row≠some h
theorem OwnXs.rx{t u:TypeId}{base:Nat}{row:Option Nat}{news:List Value}{v:Value}{w w':World}(h:OwnXs t row news v w)(hr:RXs u base row w w'):OwnXs t row news v w':=by
 obtain⟨k,e,hk,hne⟩:=h;have hlt:k<w.heap.size:=(Zk.1 hk).1;refine⟨k,e,?_,hne⟩;rcases hr with hr|⟨hr,_⟩
 ·rw[hr.block k hlt];exact hk
 ·rw[hr.block k hlt (fun e=>hne e.symm)];exact hk
theorem ZcU{w:World}{base:Nat}{t:TypeId}{s n:Nat}{v:Value}{xs:List Value}(h:w.ownsRow base t s v n xs):∀b,v.ownBlock=some b->base<=b/\b<w.heap.size/\∃cs fr,w.heap[b]?=some (.cells cs t fr):=by
 intro b hb;rcases h.2 with⟨rfl,_⟩|⟨g,cap,cur,rfl,hg,hgg,_⟩
 ·simp[Value.ownBlock]at hb
 ·obtain rfl: g = b:=by simpa [Value.ownBlock] using hb
  exact⟨hg,(Zk.1 hgg).1,_,_,hgg⟩
def Grews(t:TypeId)(base s n:Nat)(xs:List Value)(v:Value)(w:World):Prop:=∃ F d,v=.slice F n d/\w.ownsRow base t s (.slice F n d) n xs
theorem Grews.below{t:TypeId}{base s n:Nat}{xs:List Value}{v:Value}{w w':World}(h:Grews t base s n xs v w)(hb:Below w.heap.size w w'):Grews t base s n xs v w':=by obtain⟨F,d,e,ho⟩:=h;exact⟨F,d,e,Zac ho hb⟩
theorem Zfm{w:World}{base:Nat}{t tl:TypeId}{s bytes n:Nat}{z u v:Value}{xs news:List Value}(hu:Zg.underlying tl=some (.slice t))(hinf:(Zg.info? t).map (fun i=>(i.zero,i.size,i.bytes))=some (some z,s,bytes))(hzs:z.cells.size=s)(hs0:0<s)(hby:bytes<=48)
  (hO:w.ownsRow base t s u n xs)(hE:OwnXs t u.ownBlock news v w)(hs:news.length=s)(h1:∀x∈news,x.oneCell'=true)(hl:n<=1000)(hb:base<=w.heap.size):
  ∃v' w',(Builtin.append_ #[tl,tl] tl #[u,v]).run Zg w=.ok v' w'/\Grews t base s (n+1) (xs++news) v' w'/\RXs t base u.ownBlock w w'/\∀k,v'.ownBlock=some k->u.ownBlock=some k\/w.heap.size<=k:=by
 obtain⟨h,rfl,hh,hne⟩:=hE;obtain⟨i0,hi0,hz0,hz1,hz2⟩:=Zf7 hinf;have hlt:=ZcU hO;obtain⟨g,cap,w',hr,how,hg,hat,hgl⟩:=run_append_lies (P:=Zg) w tl tl base t i0 z s bytes hu hi0 hz0 hz1 hz2 hzs hs0 u n xs hO
  ⟨h,0,none⟩ 1 1 news (by rw[hs,Nat.one_mul]) (fun j x hx=>World.news_of_block hh j x (by simpa using hx)) h1 (by omega) (by unfold maxLen;omega) (by have:(n+1) * bytes<=1001 * 48:=Nat.mul_le_mul (by omega) hby;omega) hb _ rfl
 exact⟨_,w',hr,⟨_,_,rfl,how⟩,.inr ⟨hg,fun b hb'=>⟨(hlt b hb').1,(hlt b hb').2.2⟩⟩,fun k hk=>by
  obtain rfl:g=k:=by simpa[Value.ownBlock]using hk
  rcases hat with h|h
  ·exact .inl h
  ·exact .inr (by omega)⟩
theorem Zek{P:Program}{ops:Array Oper}{rest:List Oper}{o:Oper}{a:Act}{Q:Exit->Act->World->Prop}{w w':World}{v:Value}(hgd:o.guard=none)(s x:Operand)(t:TypeId)(vs vx:Value)
  (ho:o.op=.call {callee:=.builtin .append,args:=#[s,x],argTypes:=#[t,t]})(hs:a.eval s=vs)(hx:a.eval x=vx)(hr:(Builtin.append_ #[t,t] o.type #[vs,vx]).run P w=.ok v w')
  (h:wpList P ops Q rest (a.put o.dst v) w'):wpList P ops Q (o::rest) a w:=by
 refine wpList_plain hgd fun K hK=> ?_;unfold Oper.wp execOp;simp only[ho,resolve,invoke,builtin,Sem.run_bind,Sem.run_pure,Result.andThen_ok,List.map_toArray,List.map_cons,List.map_nil,hs,hx,hr];exact hK _ _ h
theorem ZcV{ops:Array Oper}{rest:List Oper}{o:Oper}{a:Act}{Q:Exit->Act->World->Prop}(hgd:o.guard=none)(s x:Operand)(t tl:TypeId)(size bytes:Nat)(z:Value)(hu:Zg.underlying tl=some (.slice t))
  (hinf:(Zg.info? t).map (fun i=>(i.zero,i.size,i.bytes))=some (some z,size,bytes))(hzs:z.cells.size=size)(hs0:0<size)(hby:bytes<=48)(hty:o.type=tl)
  (ho:o.op=.call {callee:=.builtin .append,args:=#[s,x],argTypes:=#[tl,tl]})(w1:World)(base n:Nat)(u:Value)(xs news:List Value)(hO:w1.ownsRow base t size u n xs)(hn:news.length=size)(h1:∀x∈news,x.oneCell'=true)(hl:n<=1000)(hb:base<=w1.heap.size)
  (hs:a.eval s=u)(hx:a.eval x=.slice (some ⟨w1.heap.size,0,none⟩) 1 1)
  (h:∀F d w',w'.ownsRow base t size (.slice F (n+1) d) (n+1) (xs++news)->RXs t base u.ownBlock w1 w'->(∀k,(Value.slice F (n+1) d).ownBlock=some k->u.ownBlock=some k\/w1.heap.size<=k)->wpList Zg ops Q rest (a.put o.dst (.slice F (n+1) d)) w'):
  wpList Zg ops Q (o::rest) a (w1.alloc (.cells news.toArray t)):=by
 have hE:OwnXs t u.ownBlock news (.slice (some ⟨w1.heap.size,0,none⟩) 1 1) (w1.alloc (.cells news.toArray t)):=⟨w1.heap.size,rfl,heap_alloc_new w1 _,fun e=>by have:=(ZcU hO _ e).2.1;omega⟩;obtain⟨v',w',hr,⟨F,d,rfl,ho'⟩,hR,hat⟩:=Zfm (tl:=tl) hu hinf hzs hs0 hby (Zac hO (Zaa _)) hE hn h1 hl (by simp;omega);have hR':RXs t base u.ownBlock w1 w':=by
  rcases hR with hR|⟨hg,h2⟩
  ·exact .inl ((Zaa _).trans (hR.mono (by simp)))
  ·refine .inr ⟨⟨hg.os,hg.tape,hg.output,Nat.le_trans (by simp) hg.size,fun k hk hne => ?_⟩,fun b hb' => ⟨(h2 b hb').1,(ZcU hO b hb').2.2⟩⟩
   rw[hg.block k (by simp;omega) hne];exact(Zaa _).block k hk
 exact Zek hgd s x tl u _ ho hs hx (by rw[hty];exact hr) (h F d w' ho' hR' (fun k hk=>(hat k hk).imp id (fun h=>by simp at h;omega)))
section
variable {A: Option Addr}{n c: Nat}{F: Option Addr}{m d: Nat}{W: List Int}{E: List (Int × Int)}{N: Option Addr}{nn nc: Nat}{need: List Int}{T: Option Addr}{tn tc: Nat}{t: List (List Int)}
end
section
variable {A: Option Addr}{n c: Nat}{F: Option Addr}{m d: Nat}{W: List Int}{E: List (Int × Int)}{N: Option Addr}{nn nc: Nat}{need: List Int}{T: Option Addr}{tn tc: Nat}{t: List (List Int)}
end
section
variable {A: Option Addr}{n c: Nat}{F: Option Addr}{m d: Nat}{W: List Int}{E: List (Int × Int)}{A': Option Addr}{n' c': Nat}{F': Option Addr}{m' d': Nat}{O L: List Int}
end
section
variable {A: Option Addr}{n c: Nat}{F: Option Addr}{m d: Nat}{W: List Int}{E: List (Int × Int)}{A': Option Addr}{n' c': Nat}{F': Option Addr}{m' d': Nat}{O L: List Int}
end
section
variable {A: Option Addr}{n c: Nat}{F: Option Addr}{m d: Nat}{O L: List Int}{A': Option Addr}{n' c': Nat}{F': Option Addr}{m' d': Nat}{O' L': List Int}
theorem ZhP{w:World}(o p:Obj):Below w.heap.size w ((w.alloc o).alloc p):=(Zaa o).trans ((Zaa (w:=w.alloc o) p).mono (by simp))
end
section
variable {T T': Option Addr}{tn tc tn' tc': Nat}{t t': List (List Int)}
end
end Go.Proofs.YtfahabphncmbfaaGreatDoor
