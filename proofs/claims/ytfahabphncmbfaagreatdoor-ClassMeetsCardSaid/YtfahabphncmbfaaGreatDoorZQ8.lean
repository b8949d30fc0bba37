import Derived.Test.YtfahabphncmbfaaGreatDoorZQ7
import Derived.WideKeyEntry
import Derived.Deep.RegionLaw
set_option linter.all false
set_option maxRecDepth 100000
set_option maxHeartbeats 8000000
namespace Go.Proofs.YtfahabphncmbfaaGreatDoor
open Go.RowKit Go.Maps
open _root_.Array renaming getElem?_eq_some_iff→Zk,toList_modify→YL,toList_push→Yab
open Below renaming refl→Zl
open Go.Lib renaming hid→Zf
open List renaming getD_eq_getElem?_getD→Zi,getElem?_eq_getElem→Zh,getElem_mem→Zz,length_append→Zq,map_append→Yk,mem_cons→ZT,mem_cons_of_mem→Z1,mem_cons_self→Z3,mem_filter→YQ,mem_map→YG,mem_range→ZD,nodup_append→Y1,range→Zo
open Option.some renaming inj→Zr
open Go.Proofs.Tryz renaming prog→Zg
open Go renaming cell_of_row→Yaf,execOp→Yae,frozen_of_row→Yaj,heap_alloc_new→Yak,heap_setCell_other→Yah
open Go.Proofs.Tryz
theorem ZlT:(Zg.info? 217).map (fun i=>(i.zero,i.size,i.bytes))=some (some (.agg #[.int .i64 0,.int .i64 0]),2,16):=by kernel_rfl
theorem law_int:Keyed Zg 3:=int_keyed underlying3
theorem ZiA(w:World):(zeroValue 3).run Zg w=.ok (.int .i64 0) w:=by kernel_rfl
def OwnP(w:World)(base:Nat)(v:Value)(ps:List (Int×Int)):Prop:=w.ownsRow base 217 2 v ps.length (ZbX ps)
def OwnM(w:World)(b n:Nat)(D:DataW Unit):Prop:=w.ownsMap Zg 3 (plainElem Zg 3) b n D
def Tells(D:DataW Unit)(f:Nat->Nat)(x:Nat):Prop:=∀ k,k<x->D.atKey (.int .i64 (k:Int)) (.lit (.int .i64 0))=.lit (.int .i64 ((f k:Nat):Int))
theorem Tells.zero(D:DataW Unit)(f:Nat->Nat):Tells D f 0:=fun k hk=>by omega
theorem Tells.put{D:DataW Unit}{f:Nat->Nat}{x v:Nat}(h:Tells D f x)(hD:IsMap D)(hv:v=f x):Tells (D.put (.int .i64 (x:Int)) (.lit (.int .i64 (v:Int)))) f (x+1):=fun k hk=>by
 by_cases e:k=x
 ·subst e
  rw[atKey_put_same hD (by simp[WideAt.IsKeyLit]),hv]
 ·rw [atKey_put_other (fun h => by injection h with _ h; omega)]
  exact h k (by omega)
theorem Tells.over{D:DataW Unit}{f:Nat->Nat}{x v:Nat}(h:Tells D f x):Tells (D.put (.int .i64 (x:Int)) (.lit (.int .i64 (v:Int)))) f x:=fun k hk=>by rw[atKey_put_other (fun h=>by injection h with _ h;omega)];exact h k hk
theorem ZjI{n:Int}(h1: -9223372036854775808<=n)(h2:n<=9223372036854775807):keyOf Zg 3 (.int .i64 n)=some (.int .i64 n):=keyOf_int_mk underlying3 (WalkArith.wf_i64 ⟨h1,h2⟩)
structure Gl(base gb b1 b2 n1 n2:Nat)(D1 D2:DataW Unit)(vW vE vP:Value)(W:List Int)(E P:List (Int×Int))(w:World):Prop where
 row:w.heap[gb]?=some (.cells #[vW,vE,vP,.map (some b1),.map (some b2)] 190 (0,0))
 le:base<=gb
 le1:base<=b1
 le2:base<=b2
 ne:b1≠b2
 hW:OwnI w base vW W
 hE:OwnE w base vE E
 hP:OwnP w base vP P
 m1:OwnM w b1 n1 D1
 m2:OwnM w b2 n2 D2
section
variable {base gb b1 b2 n1 n2: Nat}{D1 D2: DataW Unit}{vW vE vP: Value}{W: List Int}{E P: List (Int × Int)}{w w': World}
theorem Gl.cell(h:Gl base gb b1 b2 n1 n2 D1 D2 vW vE vP W E P w)(j:Nat):w.cell? ⟨gb,j,none⟩= #[vW,vE,vP,.map (some b1),.map (some b2)][j]?:=Yaf w gb j _ _ _ h.row
theorem Gl.lt(h:Gl base gb b1 b2 n1 n2 D1 D2 vW vE vP W E P w):gb<w.heap.size:=(Zk.1 h.row).1
theorem Gl.frozen(h:Gl base gb b1 b2 n1 n2 D1 D2 vW vE vP W E P w)(j:Nat):w.frozen? ⟨gb,j,none⟩=false:=Yaj w gb j _ _ h.row
theorem OwnM.below{b n:Nat}{D:DataW Unit}(h:OwnM w b n D)(hb:Below w.heap.size w w'):OwnM w' b n D:=by have hl:=h.lt;obtain⟨es,clock,hb',F,hs,hD⟩:=h;exact⟨es,clock,by rw[hb.block b hl];exact hb',F,hs,hD⟩
theorem Gl.below(h:Gl base gb b1 b2 n1 n2 D1 D2 vW vE vP W E P w)(hb:Below w.heap.size w w'):Gl base gb b1 b2 n1 n2 D1 D2 vW vE vP W E P w':=
 ⟨by rw[hb.block _ h.lt];exact h.row,h.le,h.le1,h.le2,h.ne,Zac h.hW hb,Zac h.hE hb,Zac h.hP hb,h.m1.below hb,h.m2.below hb⟩
theorem Gl.nm1(h:Gl base gb b1 b2 n1 n2 D1 D2 vW vE vP W E P w):b1≠gb:=fun e=>by obtain⟨es,clock,hb,_⟩:=h.m1;rw[e,h.row]at hb;injection hb with hb;cases hb
theorem Gl.nm2(h:Gl base gb b1 b2 n1 n2 D1 D2 vW vE vP W E P w):b2≠gb:=fun e=>by obtain⟨es,clock,hb,_⟩:=h.m2;rw[e,h.row]at hb;injection hb with hb;cases hb
theorem Gl.stored{u:Value}{vW' vE' vP':Value}{W':List Int}{E' P':List (Int×Int)}(j:Nat)(h:Gl base gb b1 b2 n1 n2 D1 D2 vW vE vP W E P w){w1:World}
  (hrow:w1.heap[gb]?=some (.cells #[vW,vE,vP,.map (some b1),.map (some b2)] 190 (0,0)))(hset: #[vW,vE,vP,.map (some b1),.map (some b2)].setIfInBounds j u= #[vW',vE',vP',.map (some b1),.map (some b2)])
  (hW:OwnI w1 base vW' W')(hE:OwnE w1 base vE' E')(hP:OwnP w1 base vP' P')(m1:OwnM w1 b1 n1 D1)(m2:OwnM w1 b2 n2 D2):
  Gl base gb b1 b2 n1 n2 D1 D2 vW' vE' vP' W' E' P' (w1.setCell ⟨gb,j,none⟩ u)/\Below base w1 (w1.setCell ⟨gb,j,none⟩ u):=by
 have hf:∀k,k≠gb->(w1.setCell ⟨gb,j,none⟩ u).heap[k]?=w1.heap[k]?:=fun k hk=>Yah _ _ _ _ hk;have hmk:∀{b n:Nat}{D:DataW Unit},OwnM w1 b n D->b≠gb->OwnM (w1.setCell ⟨gb,j,none⟩ u) b n D:=fun{b n D} hm hb=>by obtain⟨es,clock,hb',F,hs,hD⟩:=hm;exact⟨es,clock,(hf b hb).trans hb',F,hs,hD⟩
 have h6:=heap_setCell_same w1 gb j _ _ u hrow;rw[hset]at h6;exact⟨⟨h6,h.le,h.le1,h.le2,h.ne,Zao hW hrow (by decide) hf,Zao hE hrow (by decide) hf,Zao hP hrow (by decide) hf,hmk m1 h.nm1,hmk m2 h.nm2⟩,(Zl base w1).setCell h.le u⟩
end
structure Side(w:World)(base:Nat)(vW vX:Value)(L:List Int):Prop where
 own:OwnI w base vX L
 apart:∀k,vX.ownBlock=some k->vW.ownBlock≠some k
theorem Side.nil(w:World)(base:Nat)(vW:Value):Side w base vW (.slice none 0 0) []:=⟨⟨rfl,.inl ⟨rfl,rfl⟩⟩,fun k h=>by cases h⟩
theorem Side.below{w w':World}{base:Nat}{vW vX:Value}{L:List Int}(h:Side w base vW vX L)(hb:Below w.heap.size w w'):Side w' base vW vX L:=⟨Zac h.own hb,h.apart⟩
theorem Side.rx{t:TypeId}{w w':World}{b base:Nat}{row:Option Nat}{vW vX:Value}{L:List Int}(h:Side w base vW vX L)(hr:RXl t b row w w')(ht:3≠t):Side w' base vW vX L:=⟨hr.own h.own ht,h.apart⟩
theorem Side.grew{w w':World}{base:Nat}{vW vX vW':Value}{L:List Int}(h:Side w base vW vX L)(hr:RXl 3 base vW.ownBlock w w')(hat:∀k,vW'.ownBlock=some k->vW.ownBlock=some k\/w.heap.size<=k):Side w' base vW' vX L:=by
 refine⟨⟨h.own.1,?_⟩,fun k hk e=> ?_⟩
 ·rcases h.own.2 with hn | ⟨g,cap,cur,rfl,hg,hgg,rest⟩
  ·exact .inl hn
  ·refine .inr ⟨g,cap,cur,rfl,hg,?_,rest⟩
   rcases hr with hr|⟨hr,_⟩
   ·rw[hr.block g (Zk.1 hgg).1];exact hgg
   ·rw[hr.block g (Zk.1 hgg).1 (fun e=>h.apart g rfl e.symm)];exact hgg
 ·rcases hat k e with h1 | h1
  ·exact h.apart k hk h1
  ·have:=(Zfi h.own k hk).2.1
   omega
theorem Side.stored{w:World}{base gb j:Nat}{vW vX u:Value}{L:List Int}{cs:Array Value}(h:Side w base vW vX L)(hrow:w.heap[gb]?=some (.cells cs 190 (0,0))):Side (w.setCell ⟨gb,j,none⟩ u) base vW vX L:=
 ⟨Zao h.own hrow (by decide) (fun k hk=>Yah _ _ _ _ hk),h.apart⟩
def Keeps(w w':World):Prop:=∀ (k:Nat) (cs:Array Value) (t:TypeId) (fr:Nat×Nat),w.heap[k]?=some (.cells cs t fr)->t≠3->t≠179->t≠217->t≠190->w'.heap[k]?=some (.cells cs t fr)
theorem Keeps.trans{a b c:World}(h:Keeps a b)(k:Keeps b c):Keeps a c:=fun i cs t fr h0 h1 h2 h3 h4=>k i cs t fr (h i cs t fr h0 h1 h2 h3 h4) h1 h2 h3 h4
theorem Zf2{w w':World}(hb:Below w.heap.size w w'):Keeps w w':=fun k cs t fr h _ _ _ _=>by rw[hb.block k (Zk.1 h).1];exact h
theorem RXl.keeps{u:TypeId}{base:Nat}{row:Option Nat}{w w':World}(hr:RXl u base row w w')(hu:u=3\/u=179\/u=217):Keeps w w':=fun k cs t fr h h1 h2 h3 _=>hr.heap h (by rcases hu with e|e|e<;>rw[e]<;>assumption)
theorem Zdh{w:World}{gb j:Nat}{u:Value}{cs:Array Value}(hrow:w.heap[gb]?=some (.cells cs 190 (0,0))):Keeps w (w.setCell ⟨gb,j,none⟩ u):=fun k cs' t fr h _ _ _ h4=>by
 rw[Yah _ _ _ _ (fun e=>by rw[e,hrow]at h;injection h with h;injection h with _ h5 _;exact h4 h5.symm)]
 exact h
theorem Zee(base gb b1 b2 n1 n2:Nat)(D1 D2:DataW Unit)(vW vE vP:Value)(W:List Int)(E P:List (Int×Int))(x y:Int)(w:World)(vX:Value)(L:List Int)(hm:E.length<=900)(h:Gl base gb b1 b2 n1 n2 D1 D2 vW vE vP W E P w)(hX:Side w base vW vX L):
  Calls Zg 138 #[.pointer (some ⟨gb,0,none⟩),.int .i64 x,.int .i64 y] w fun e w'=>e=.returned (.tuple #[])/\∃vE',Gl base gb b1 b2 n1 n2 D1 D2 vW vE' vP W (E++ [(x,y)]) P w'/\Side w' base vW vX L/\Below base w w'/\Keeps w w':=by
 have H:=Zf h;have HX:=Zf hX;have c0:=h.cell 0;have c1:=h.cell 1;have c2:=h.cell 2;have c3:=h.cell 3;have c4:=h.cell 4;simp at c0 c1 c2 c3 c4;have hgl:=h.lt;have hbw:base<=w.heap.size:=by have:=h.le;omega
 clear h hX;go_enter func138,ntmps138;go_wp2_with(at_builtin;refine Zfj rfl _ _ 179 23 2 16 (.agg #[.int .i64 0,.int .i64 0]) underlying23 ZdQ rfl (by omega) (by omega) rfl rfl w base E.length vE (ZbX E) [.int .i64 x,.int .i64 y] H.out.hE rfl (by simp[Value.oneCell']) (by omega) hbw rfl rfl ?_;intro F d w' hO hR hat;clear hat;(have hrow:=hR.heap H.out.row (by decide));(have k1:=Yaf w' gb 1 _ _ _ hrow);(have z1:=Yaj w' gb 1 _ _ hrow);simp at k1;(have HO:=Zf hO);(have HR:=Zf hR);(have HROW:=Zf hrow);clear hO hR hrow);have hS:=H.out.stored (w1:=w') (u:=.slice F (E.length+1) d) (vW':=vW) (vE':=.slice F (E.length+1) d) (vP':=vP) (W':=W) (E':=E++ [(x,y)]) (P':=P) 1 HROW.out rfl (HR.out.own H.out.hW (by decide)) (by unfold OwnE;rw[Zq,Ze6];exact HO.out) (HR.out.own H.out.hP (by decide)) (HR.out.ownsMap H.out.m1) (HR.out.ownsMap H.out.m2);go_end0;exact⟨rfl,_,hS.1,(HX.out.rx HR.out (by decide)).stored HROW.out,(HR.out.below hbw).trans hS.2,(HR.out.keeps (.inr (.inl rfl))).trans (Zdh HROW.out)⟩
theorem RXl.far{t:TypeId}{base:Nat}{row:Option Nat}{w w':World}(h:RXl t base row w w'){k:Nat}(hk:k<w.heap.size)(hr:row≠some k):w'.heap[k]?=w.heap[k]?:=by
 rcases h with h|⟨h,_⟩
 ·exact h.block k hk
 ·exact h.block k hk (fun e=>hr e.symm)
structure Gs(base gb b1 b2 n1 n2:Nat)(D1 D2:DataW Unit)(vW vE vP:Value)(W:List Int)(E:List (Int×Int))(w:World):Prop where
 row:w.heap[gb]?=some (.cells #[vW,vE,vP,.map (some b1),.map (some b2)] 190 (0,0))
 hW:OwnI w base vW W
 hE:OwnE w base vE E
 m1:OwnM w b1 n1 D1
 m2:OwnM w b2 n2 D2
section
variable {base gb b1 b2 n1 n2: Nat}{D1 D2: DataW Unit}{vW vE vP: Value}{W: List Int}{E P: List (Int × Int)}{w w': World}
theorem Gl.gs(h:Gl base gb b1 b2 n1 n2 D1 D2 vW vE vP W E P w):Gs base gb b1 b2 n1 n2 D1 D2 vW vE vP W E w:=⟨h.row,h.hW,h.hE,h.m1,h.m2⟩
theorem Gs.rx{b:Nat}{row:Option Nat}(h:Gs base gb b1 b2 n1 n2 D1 D2 vW vE vP W E w)(hr:RXl 217 b row w w'):Gs base gb b1 b2 n1 n2 D1 D2 vW vE vP W E w':=
 ⟨hr.heap h.row (by decide),hr.own h.hW (by decide),hr.own h.hE (by decide),hr.ownsMap h.m1,hr.ownsMap h.m2⟩
end
def Zrc(gb base n:Nat)(vP:Value)(p1 p2:Int)(xs:List Value):Nat->Value->World->Prop
 |0,v,_=>v=.pointer (some ⟨gb,0,none⟩)
 |1,v,_=>v=.pointer (some ⟨gb,0,none⟩)
 |2,v,_=>v=.pointer (some ⟨gb,0,none⟩)
 |3,v,_=>v=.pointer (some ⟨gb,0,none⟩)
 |4,v,_=>v=.pointer (some ⟨gb,2,none⟩)
 |5,v,_=>v=vP
 |6,v,_=>v=.agg #[.int .i64 p1,.int .i64 p2]
 |7,v,w=>OwnX 217 vP.ownBlock [.int .i64 p1,.int .i64 p2] v w
 |8,v,w=>Grew 217 base 2 (n+1) (xs++ [.int .i64 p1,.int .i64 p2]) v w
 |9,v,_=>v=.pointer (some ⟨gb,0,none⟩)
 |10,v,_=>v=.pointer (some ⟨gb,0,none⟩)
 |11,v,_=>v=.pointer (some ⟨gb,2,none⟩)
 |_,_,_=>True
theorem Zpy{gb base n b:Nat}{vP:Value}{p1 p2:Int}{xs:List Value}:∀(k:Nat) (v:Value) (w w':World),k≠8->Zrc gb base n vP p1 p2 xs k v w->RXl 217 b vP.ownBlock w w'->Zrc gb base n vP p1 p2 xs k v w'
 |0,_,_,_,_,h,_|1,_,_,_,_,h,_|2,_,_,_,_,h,_|3,_,_,_,_,h,_|4,_,_,_,_,h,_|5,_,_,_,_,h,_|6,_,_,_,_,h,_|9,_,_,_,_,h,_|10,_,_,_,_,h,_|11,_,_,_,_,h,_=>h
 |7,_,_,_,_,h,hr=>OwnX.rx h hr
 |8,_,_,_,hne,_,_=>absurd rfl hne
 |_+12,_,_,_,_,_,_=>trivial
theorem Znn{o:Oper}{a:Act}{x:World}{base gb b1 b2 n1 n2:Nat}{D1 D2:DataW Unit}{vW vE vP:Value}{W:List Int}{E P:List (Int×Int)}{p:Int×Int}{w:World}{K:Act->World->Prop}{Q:Exit->Act->World->Prop}(s y:Operand)(hop:o.op=.store 74 s y)(hdst:o.dst=none)
  (hG:Gl base gb b1 b2 n1 n2 D1 D2 vW vE vP W E P w)(hO:Gs base gb b1 b2 n1 n2 D1 D2 vW vE vP W E x)(f1:Grew 217 base 2 (P.length+1) (ZbX P++ [.int .i64 p.1,.int .i64 p.2]) (a.eval y) x)(f2:a.eval s=.pointer (some ⟨gb,2,none⟩)){vX:Value}{L:List Int}(hX:Side x base vW vX L)
  (hK:∀F d x',a.eval y=.slice F (P.length+1) d->Gl base gb b1 b2 n1 n2 D1 D2 vW vE (.slice F (P.length+1) d) W E (P++ [p]) x'->Side x' base vW vX L->Below base x x'->Keeps x x'->K a x'):o.wp Zg a x K Q:=by
 obtain⟨F,d,e,ho⟩:=f1;have hg:=hO.row;have d2:=Yaf x gb 2 _ _ _ hg;have z2:=Yaj x gb 2 _ _ hg;simp at d2;have hr:(Yae a.eval o).run Zg x=.ok .skip (x.setCell ⟨gb,2,none⟩ (.slice F (P.length+1) d)):=by simp only[Yae,hop];rw[e,f2];simp[go_sem,d2,z2]
 have hS:=hG.stored (w1:=x) (u:=.slice F (P.length+1) d) (vW':=vW) (vE':=vE) (vP':=.slice F (P.length+1) d) (W':=W) (E':=E) (P':=P++ [p]) 2 hg rfl hO.hW hO.hE (by unfold OwnP;rw[Zq,Ze6];exact ho) hO.m1 hO.m2;unfold Oper.wp;rw[hr,Oper.upon_skip,hdst];exact hK F d _ e hS.1 (hX.stored hg) hS.2 (Zdh hg)
theorem ZiB(base gb b1 b2 n1 n2:Nat)(D1 D2:DataW Unit)(vW vE vP:Value)(W:List Int)(E P:List (Int×Int))(p1 p2 k:Int)(w:World)(vX:Value)(L:List Int)(hn:W.length<=900)(hm:P.length<=900)(h:Gl base gb b1 b2 n1 n2 D1 D2 vW vE vP W E P w)(hX:Side w base vW vX L):
    Calls Zg 195 #[.pointer (some ⟨gb,0,none⟩),.agg #[.int .i64 p1,.int .i64 p2],.int .i64 k] w fun e w'=>e=.returned (.int .i64 (P.length:Nat))/\∃vW' vP',Gl base gb b1 b2 n1 n2 D1 D2 vW' vE vP' (W++ [k]) E (P++ [(p1,p2)]) w'/\Side w' base vW' vX L/\Below base w w'/\Keeps w w':=by
  have hbw:base<=w.heap.size:=by have:=h.le;have:=h.lt;omega
  obtain⟨wA,hwA⟩:∃wA,wA=w.alloc (.cells #[.int .i64 p1,.int .i64 p2] 217):=⟨_,rfl⟩;have hbA:Below w.heap.size w wA:=by rw[hwA];exact Zaa _
  have hqA:wA.heap[w.heap.size]?=some (.cells #[.int .i64 p1,.int .i64 p2] 217 (0,0)):=by rw[hwA];exact Yak w _
  have hvP:∀b,vP.ownBlock=some b->b<w.heap.size:=fun b hb=>(Zfi h.hP b hb).2.1;have HA:=Zf (h.below hbA);have HX:=Zf (hX.below hbA);have HBA:=Zf hbA;have HQ:=Zf hqA;have HVP:=Zf hvP;clear h hX hbA hqA hvP;go_enter func195,ntmps195;go_wp2_with fail;rw[<-hwA];clear hwA;refine Zar 12 8 [7,8,9,10,11,12,13,14,15,16,17,18] (by kernel_rfl) (by kernel_rfl) (by intro d hd;simp at hd⊢;omega) (fun x=>Below base wA x/\Gs base gb b1 b2 n1 n2 D1 D2 vW vE vP W E x/\x.heap[w.heap.size]?=some (.cells #[.int .i64 p1,.int .i64 p2] 217 (0,0))/\Side x base vW vX L/\Keeps wA x) (fun x=>OwnP x base vP P) (RXl 217 base vP.ownBlock) (Zrc gb base P.length vP p1 p2 (ZbX P))
    (fun _ _ h=> .inl h) (fun x y h hr=>⟨h.1.trans (hr.below (by have:=h.1.size;have:=HBA.out.size;omega)),h.2.1.rx hr,by rw[hr.far (Zk.1 h.2.2.1).1 (fun e=>by have:=HVP.out _ e;omega)];exact h.2.2.1,h.2.2.2.1.rx hr (by decide),h.2.2.2.2.trans (hr.keeps (.inr (.inr rfl)))⟩) (fun _ _ h hb=>Zac h hb) (fun k v x y hk h hr=>Zpy k v x y hk h hr) (fun v x y h hb=>Grew.below h hb)
    ⟨(Zl _ _).drew,HA.out.gs.rx (b:=base) (row:=none) (.inl (Zl _ _).drew),HQ.out,HX.out.below (Zl _ _).drew,Zf2 (Zl _ _).drew⟩ (Zac HA.out.hP (Zl _ _).drew) ?hstep ?hlast
  case hstep=>
    intro j o hj ho ρ x hI hA hd hJ;have h0:ρ (.tmp 0)=.pointer (some ⟨gb,0,none⟩):=hA.tmp 0 (by decide);have h4:ρ (.tmp 4)=.pointer (some ⟨w.heap.size,0,none⟩):=hA.tmp 4 (by decide);have hc2:x.cell? ⟨gb,2,none⟩=some vP:=by rw[Yaf _ _ _ _ _ _ hI.2.1.row];rfl
    have q0:x.cell? ⟨w.heap.size,0,none⟩=some (.int .i64 p1):=by rw[Yaf _ _ _ _ _ _ hI.2.2.1];rfl
    have q1:x.cell? ⟨w.heap.size,1,none⟩=some (.int .i64 p2):=by rw[Yaf _ _ _ _ _ _ hI.2.2.1];rfl
    have hsz:base<=x.heap.size:=by have:=hI.1.size;have:=HBA.out.size;omega
    have hgt:w.heap.size<x.heap.size:=(Zk.1 hI.2.2.1).1
    match j,hj with
    | 0, _ =>cases ho;exact⟨.pointer (some ⟨gb,0,none⟩),x,by simp[Yae,h0,go_sem],rfl,Zl _ _⟩
    | 1, _ =>cases ho;exact⟨.pointer (some ⟨gb,0,none⟩),x,by simp[Yae,h0,go_sem],rfl,Zl _ _⟩
    | 2, _ =>
      cases ho;have f:ρ (.tmp 8)=.pointer (some ⟨gb,0,none⟩):=hd ⟨1,.data⟩ (by simp) (by rfl)
      exact⟨.pointer (some ⟨gb,0,none⟩),x,by simp[Yae,f,go_sem],rfl,Zl _ _⟩
    | 3, _ =>
      cases ho;have f:ρ (.tmp 9)=.pointer (some ⟨gb,0,none⟩):=hd ⟨2,.data⟩ (by simp) (by rfl)
      exact⟨.pointer (some ⟨gb,0,none⟩),x,by simp[Yae,f,go_sem],rfl,Zl _ _⟩
    | 4, _ =>
      cases ho;have f:ρ (.tmp 10)=.pointer (some ⟨gb,0,none⟩):=hd ⟨3,.data⟩ (by simp) (by rfl)
      exact⟨.pointer (some ⟨gb,2,none⟩),x,by simp[Yae,f,go_sem],rfl,Zl _ _⟩
    | 5, _ =>
      cases ho;have f:ρ (.tmp 11)=.pointer (some ⟨gb,2,none⟩):=hd ⟨4,.data⟩ (by simp) (by rfl)
      exact⟨vP,x,by simp[Yae,f,hc2,go_sem],rfl,Zl _ _⟩
    | 6, _ =>cases ho;exact⟨.agg #[.int .i64 p1,.int .i64 p2],x,by simp[Yae,h4,q0,q1,go_sem],rfl,Zl _ _⟩
    | 7, _ =>
      cases ho;have f:ρ (.tmp 13)=.agg #[.int .i64 p1,.int .i64 p2]:=hd ⟨6,.data⟩ (by simp) (by rfl)
      exact⟨.slice (some ⟨x.heap.size,0,none⟩) 1 1,x.alloc (.cells #[.int .i64 p1,.int .i64 p2] 217),by simp[Yae,f,go_sem],⟨_,rfl,Yak x _,fun e=>by have:=HVP.out _ e;omega⟩,Zaa _⟩
    | 8, _ =>
      cases ho;have f5:ρ (.tmp 12)=vP:=hd ⟨5,.data⟩ (by simp) (by rfl);have f7:OwnX 217 vP.ownBlock [.int .i64 p1,.int .i64 p2] (ρ (.tmp 14)) x:=hd ⟨7,.data⟩ (by simp) (by rfl);obtain⟨u',w2,hr,how,hrb,_⟩:=Zf3 (tl:=74) underlying74 ZlT rfl (by omega) (by omega) (hJ rfl) f7 rfl (by simp[Value.oneCell']) (by omega) hsz
      exact⟨u',w2,by simp[Yae,resolve,invoke,builtin,f5,hr,Result.andThen],how,hrb⟩
    | 9, _ =>
      cases ho;have f:ρ (.tmp 7)=.pointer (some ⟨gb,0,none⟩):=hd ⟨0,.data⟩ (by simp) (by rfl)
      exact⟨.pointer (some ⟨gb,0,none⟩),x,by simp[Yae,f,go_sem],rfl,Zl _ _⟩
    | 10, _ =>
      cases ho;have f:ρ (.tmp 16)=.pointer (some ⟨gb,0,none⟩):=hd ⟨9,.data⟩ (by simp) (by rfl)
      exact⟨.pointer (some ⟨gb,0,none⟩),x,by simp[Yae,f,go_sem],rfl,Zl _ _⟩
    | 11, _ =>
      cases ho;have f:ρ (.tmp 17)=.pointer (some ⟨gb,0,none⟩):=hd ⟨10,.data⟩ (by simp) (by rfl)
      exact⟨.pointer (some ⟨gb,2,none⟩),x,by simp[Yae,f,go_sem],rfl,Zl _ _⟩
    |j+12,hk=>omega
  case hlast=>
    intro o ho vals x hI hF;cases ho;have f8:Grew 217 base 2 (P.length+1) (ZbX P++ [.int .i64 p1,.int .i64 p2]) (vals 15) x:=hF 8 (by decide);have f11:vals 18=.pointer (some ⟨gb,2,none⟩):=hF 11 (by decide);refine Znn (p:=(p1,p2)) (.tmp 18) (.tmp 15) rfl rfl HA.out hI.2.1 f8 f11 hI.2.2.2.1 ?_;intro F d x' e15 hG hS0 hb hkp;have HKP:=Zf ((Zf2 HBA.out).trans (hI.2.2.2.2.trans hkp));have HS0:=Zf hS0;have HG:=Zf hG;have HB:=Zf (hI.1.trans hb);have c0:=hG.cell 0;simp at c0;have hsz:base<=x'.heap.size:=by have:=HB.out.size;have:=HBA.out.size;omega
    have hgl:=hG.lt;clear hG hS0 hb hkp hI hF f8 f11 e15;simp only[ZaW,Zba,List.contains_cons,List.contains_nil,Nat.reduceBEq,Bool.or_false,Bool.false_or,Bool.or_true,Bool.true_or,cond_true,cond_false,Nat.zero_add,Nat.reduceAdd];go_wp2_with(at_builtin;refine Zfj rfl _ _ 3 22 1 8 (.int .i64 0) underlying22 Zbj rfl (by omega) (by omega) rfl rfl x' base W.length vW (W.map (Value.int .i64)) [.int .i64 k] HG.out.hW rfl (by simp[Value.oneCell']) (by omega) hsz rfl rfl ?_;intro F2 d2 w2 hO hR hat;(have HAT:=Zf hat);clear hat;(have hrow:=hR.heap HG.out.row (by decide));(have k0:=Yaf w2 gb 0 _ _ _ hrow);(have k2:=Yaf w2 gb 2 _ _ _ hrow);(have z0:=Yaj w2 gb 0 _ _ hrow);simp at k0 k2;(have HO:=Zf hO);(have HR:=Zf hR);(have HROW:=Zf hrow);clear hO hR hrow c0);have hS:=HG.out.stored (w1:=w2) (u:=.slice F2 (W.length+1) d2) (vW':=.slice F2 (W.length+1) d2) (vE':=vE) (vP':=.slice F (P.length+1) d) (W':=W++ [k]) (E':=E) (P':=P++ [(p1,p2)]) 0 HROW.out rfl (by unfold OwnI;rw[Zq,Yk];exact HO.out) (HR.out.own HG.out.hE (by decide)) (HR.out.own HG.out.hP (by decide)) (HR.out.ownsMap HG.out.m1) (HR.out.ownsMap HG.out.m2);go_ret;exact⟨by go_num,_,_,hS.1,(HS0.out.grew HR.out HAT.out).stored HROW.out,((HBA.out.mono hbw).trans (HB.out.trans ((HR.out.below hsz).trans hS.2))),HKP.out.trans ((HR.out.keeps (.inl rfl)).trans (Zdh HROW.out))⟩
open Go.MapKept Go.ChangeMaps Go.WideElems
theorem wfI{x:Int}(h1: -9223372036854775808<=x)(h2:x<=9223372036854775807):(Lit.int .i64 x).wf=true:=WalkArith.wf_i64 ⟨h1,h2⟩
theorem ZjJ{w:World}{base:Nat}{t:TypeId}{s n:Nat}{v:Value}{xs:List Value}{b m:Nat}{D:DataW Unit}(ho:w.ownsRow base t s v n xs)(hm:OwnM w b m D):v.ownBlock≠some b:=fun e=>by obtain⟨_,_,cs,fr,h1⟩:=Zfi ho b e;obtain⟨es,clock,h2,_⟩:=hm;rw[h1]at h2;injection h2 with h2;cases h2
theorem ZbP{w w':World}{base:Nat}{t:TypeId}{s n:Nat}{v:Value}{xs:List Value}{b m:Nat}{D:DataW Unit}(ho:w.ownsRow base t s v n xs)(hm:OwnM w b m D)(hg:w.grownBy w' (some b)):w'.ownsRow base t s v n xs:=
 ho.kept hg (by
  cases hv:v.ownBlock with
  |none=>exact .inl rfl
  |some k=>exact .inr (fun e=>ZjJ ho hm (by rw[hv,e])))
theorem Zdi{w w':World}{base b:Nat}(hb:base<=b)(hg:w.grownBy w' (some b))(hw:base<=w.heap.size):Below base w w':=
 ⟨hg.os,hg.tape,hg.output,hg.size,fun k hk=>hg.block k (by omega) (fun e=>by have:=Zr e;omega)⟩
section
variable {base gb b1 b2 n1 n2 n': Nat}{D1 D2 D': DataW Unit}{vW vE vP: Value}{W: List Int}{E P: List (Int × Int)}{w w': World}
theorem Gl.mapped1(h:Gl base gb b1 b2 n1 n2 D1 D2 vW vE vP W E P w)(hg:w.grownBy w' (some b1))(hm:OwnM w' b1 n' D'):Gl base gb b1 b2 n' n2 D' D2 vW vE vP W E P w':=
 ⟨by rw[hg.block gb h.lt (fun e=>h.nm1 (Zr e).symm)];exact h.row,h.le,h.le1,h.le2,h.ne,ZbP h.hW h.m1 hg,ZbP h.hE h.m1 hg,ZbP h.hP h.m1 hg,hm,h.m2.kept hg (fun e=>h.ne (Zr e).symm)⟩
theorem Gl.mapped2(h:Gl base gb b1 b2 n1 n2 D1 D2 vW vE vP W E P w)(hg:w.grownBy w' (some b2))(hm:OwnM w' b2 n' D'):Gl base gb b1 b2 n1 n' D1 D' vW vE vP W E P w':=
 ⟨by rw[hg.block gb h.lt (fun e=>h.nm2 (Zr e).symm)];exact h.row,h.le,h.le1,h.le2,h.ne,ZbP h.hW h.m2 hg,ZbP h.hE h.m2 hg,ZbP h.hP h.m2 hg,h.m1.kept hg (fun e=>h.ne (Zr e)),hm⟩
theorem Side.mapped{b m:Nat}{D:DataW Unit}{vX:Value}{L:List Int}(h:Side w base vW vX L)(hm:OwnM w b m D)(hg:w.grownBy w' (some b)):Side w' base vW vX L:=⟨ZbP h.own hm hg,h.apart⟩
end
theorem Zfh(w:World)(b:Nat)(o o':Obj):setBlock (setBlock w b o) b o'=setBlock w b o':=by unfold setBlock;simp
theorem Zno{w:World}{b n:Nat}{D:DataW Unit}(h:OwnM w b n D)(hn:n<=100000){x v:Int}(hx1: -9223372036854775808<=x)(hx2:x<=9223372036854775807)(hv1: -9223372036854775808<=v)(hv2:v<=9223372036854775807):
  ∃w',(Instr.mapUpdate 188 (.map (some b)) (.int .i64 x) (.int .i64 v)).run Zg w=.ok () w'/\OwnM w' b (n+1) (D.put (.int .i64 x) (.lit (.int .i64 v)))/\w.grownBy w' (some b):=
 h.update law_int underlying188 (by unfold maxLen;omega) (ZjI hx1 hx2) (plainElem_int underlying3 (wfI hv1 hv2))
theorem ZiC{w:World}{b n:Nat}{D:DataW Unit}(h:OwnM w b n D)(hn:n<=100000){x v:Int}(hx1: -9223372036854775808<=x)(hx2:x<=9223372036854775807)(hv1: -9223372036854775808<=v)(hv2:v<=9223372036854775807):
  ∃(v0:Value) (st:Nat) (w1 w2:World),(Instr.mapEntry 188 (.map (some b)) (.int .i64 x)).run Zg w=.ok (.tuple #[v0,.int .i64 (st:Int)]) w1/\(Instr.entryStore 188 (.map (some b)) (.int .i64 (st:Int)) (.int .i64 v)).run Zg w1=.ok () w2/\
   OwnM w2 b (n+1) (D.put (.int .i64 x) (.lit (.int .i64 v)))/\w.grownBy w2 (some b):=by
 obtain⟨w',hu,hm',hg⟩:=Zno h hn hx1 hx2 hv1 hv2;have hkey:=ZjI hx1 hx2;have ht:=underlying188;obtain⟨es,clock,hb,F,hs,hD⟩:=h;obtain⟨s1,s2,_⟩:=F.stamped;rcases law_int.find w hkey es.toList F.keys with⟨h1,h2⟩|⟨j,e0,h1,h2,h3⟩
 ·have e3: (Instr.mapUpdate 188 (.map (some b)) (.int .i64 x) (.int .i64 v)).run Zg w =.ok () (setBlock w b (.map (es.push ⟨.int .i64 x,.int .i64 v,clock⟩) (clock + 1))):=by
   simp[Instr.mapUpdate,run_underlying ht,MapKept.run_getObj_map hb,law_int.check w false hkey,h1,MapKept.run_setObj_map _ hb,Result.andThen,setBlock]
  have hb1:(setBlock w b (.map (es.push ⟨.int .i64 x,.int .i64 0,clock⟩) (clock+1))).heap[b]?=some (.map (es.push ⟨.int .i64 x,.int .i64 0,clock⟩) (clock+1)):=heap_setBlock_same hb _;have hidx:(es.push ⟨.int .i64 x,.int .i64 0,clock⟩).findIdx? (fun e=>((e.born:Nat):Int)==((clock:Nat):Int))=some es.size:=by
   rw[findIdx_arr];refine findIdx_born (l:=(es.push ⟨.int .i64 x,.int .i64 0,clock⟩).toList) (j:=es.size) (e0:=⟨.int .i64 x,.int .i64 0,clock⟩) ?_ (by simp);simp only[Yab,Yk,List.map_cons,List.map_nil];refine Y1.2 ⟨s2,by simp,fun a ha c hc e=> ?_⟩;obtain⟨y,hy,rfl⟩:=YG.1 ha;have:=s1 y hy;have hc':c=clock:=by simpa using hc
   omega
  have hmod:(es.push ⟨.int .i64 x,.int .i64 0,clock⟩).modify es.size (fun e=>{e with val:=.int .i64 v})=es.push ⟨.int .i64 x,.int .i64 v,clock⟩:=by apply Array.ext';rw[YL,Yab,Yab,<-Array.length_toList,modify_last]
  refine⟨.int .i64 0,clock,setBlock w b (.map (es.push ⟨.int .i64 x,.int .i64 0,clock⟩) (clock+1)),w',?_,?_,hm',hg⟩
  ·simp[Instr.mapEntry,run_underlying ht,MapKept.run_getObj_map hb,law_int.check w false hkey,h1,ZiA,MapKept.run_setObj_map _ hb,Result.andThen,setBlock,goInt]
  ·have hw: w' = setBlock w b (.map (es.push ⟨.int .i64 x,.int .i64 v,clock⟩) (clock + 1)):=by
    rw[hu]at e3;injection e3
   have e4:∀wz:World,wz.heap[b]?=some (.map (es.push ⟨.int .i64 x,.int .i64 0,clock⟩) (clock+1))->(Instr.entryStore 188 (.map (some b)) (.int .i64 (clock:Int)) (.int .i64 v)).run Zg wz=.ok () (setBlock wz b (.map (es.push ⟨.int .i64 x,.int .i64 v,clock⟩) (clock+1))):=fun wz hz=>by simp[Instr.entryStore,MapKept.run_getObj_map hz,asInt,asIntOf,hidx,hmod,MapKept.run_setObj_map _ hz,Result.andThen,setBlock]
   rw[e4 _ hb1,Zfh,hw]
 ·have hj: es[j]?= some e0:=by simpa using h2
  have hsame:es.modify j (fun e=>{e with key:=.int .i64 x})=es:=by apply Array.ext';rw[YL,modify_eq_set _ _ _ _ h2,show({e0 with key:=.int .i64 x}:MapEntry)=e0 by rw[<-h3]];exact set_self _ _ _ h2
  have e3:(Instr.mapUpdate 188 (.map (some b)) (.int .i64 x) (.int .i64 v)).run Zg w=.ok () (setBlock w b (.map (es.modify j (fun e'=>{e' with key:=.int .i64 x,val:=.int .i64 v})) clock)):=by simp[Instr.mapUpdate,run_underlying ht,MapKept.run_getObj_map hb,law_int.check w false hkey,h1,hj,h3,law_int.stays w hkey,MapKept.run_setObj_map _ hb,Result.andThen,setBlock]
  have hb1:(setBlock w b (.map es clock)).heap[b]?=some (.map es clock):=heap_setBlock_same hb _;have hidx:es.findIdx? (fun e=>((e.born:Nat):Int)==((e0.born:Nat):Int))=some j:=by rw[findIdx_arr];exact findIdx_born s2 h2
  have hmod:es.modify j (fun e=>{e with val:=.int .i64 v})=es.modify j (fun e'=>{e' with key:=.int .i64 x,val:=.int .i64 v}):=by apply Array.ext';rw[YL,YL,modify_eq_set _ _ _ _ h2,modify_eq_set _ _ _ _ h2,<-h3]
  refine⟨e0.val,e0.born,setBlock w b (.map es clock),w',?_,?_,hm',hg⟩
  ·simp[Instr.mapEntry,run_underlying ht,MapKept.run_getObj_map hb,law_int.check w false hkey,h1,hj,h3,law_int.stays w hkey,hsame,MapKept.run_setObj_map _ hb,Result.andThen,setBlock,goInt]
  ·have hw: w' = setBlock w b (.map (es.modify j (fun e' => { e' with key:=.int .i64 x,val:=.int .i64 v })) clock):=by
    rw[hu]at e3;injection e3
   have e4:∀wz:World,wz.heap[b]?=some (.map es clock)->(Instr.entryStore 188 (.map (some b)) (.int .i64 (e0.born:Int)) (.int .i64 v)).run Zg wz=.ok () (setBlock wz b (.map (es.modify j (fun e'=>{e' with key:=.int .i64 x,val:=.int .i64 v})) clock)):=fun wz hz=>by simp[Instr.entryStore,MapKept.run_getObj_map hz,asInt,asIntOf,hidx,hmod,MapKept.run_setObj_map _ hz,Result.andThen,setBlock]
   rw[e4 _ hb1,Zfh,hw]
def Zap(fs:List (Int×Int×Int))(j:Nat):Int×Int×Int:=fs.getD j (0,0,0)
def selF(fs:List (Int×Int×Int))(x:Int)(a:Nat)(i:Nat):List Nat:=(Zo i).filter fun j=>decide ((Zap fs j).2.1=x)&&decide ((Zap fs j).2.2=(a:Int))
def touK(fs:List (Int×Int×Int))(x:Int):Nat->List Nat
 |0=> []
 |a+1=>touK fs x a++selF fs x (a+1) fs.length
def touL(fs:List (Int×Int×Int))(x:Int):List Nat:=touK fs x 99
theorem mem_selF{fs:List (Int×Int×Int)}{x:Int}{a i j:Nat}:j∈selF fs x a i↔j<i/\(Zap fs j).2.1=x/\(Zap fs j).2.2=(a:Int):=by unfold selF;rw[YQ,ZD,Bool.and_eq_true,decide_eq_true_iff,decide_eq_true_iff]
theorem mem_touK{fs:List (Int×Int×Int)}{x:Int}{j:Nat}:∀{a:Nat},j∈touK fs x a↔j<fs.length/\(Zap fs j).2.1=x/\1<=(Zap fs j).2.2/\(Zap fs j).2.2<=(a:Int)
  | 0 => by
    constructor
    · intro h;cases h
    · rintro⟨_,_,h1,h2⟩;omega
  | a + 1 => by
    show j∈touK fs x a++selF fs x (a+1) fs.length↔_;rw[List.mem_append,mem_touK (a:=a),mem_selF];constructor
    · rintro(⟨h1,h2,h3,h4⟩|⟨h1,h2,h3⟩)
      · exact⟨h1,h2,h3,by omega⟩
      · exact⟨h1,h2,by omega,by omega⟩
    · rintro⟨h1,h2,h3,h4⟩;by_cases h:(Zap fs j).2.2=((a+1:Nat):Int)
      · exact .inr ⟨h1,h2,h⟩
      · exact .inl ⟨h1,h2,h3,by omega⟩
theorem ZeK(fs:List (Int×Int×Int))(x:Int)(a i:Nat):(selF fs x a i).Nodup:=List.Nodup.sublist (List.filter_sublist) List.nodup_range
theorem ZlU{fs:List (Int×Int×Int)}{x:Int}{a i:Nat}(h:(touK fs x a).Nodup):(touK fs x a++selF fs x (a+1) i).Nodup:=by rw[Y1];refine⟨h,ZeK _ _ _ _,fun j hj k hk e=> ?_⟩;subst e;have h1:=(mem_touK.mp hj).2.2.2;have h2:=(mem_selF.mp hk).2.2;omega
theorem ZeL(fs:List (Int×Int×Int))(x:Int):∀a,(touK fs x a).Nodup
 |0=>by simp[touK]
 |a+1=>ZlU (ZeL fs x a)
theorem Znp(n:Nat)(l:List Nat)(hn:l.Nodup)(h:∀x∈l,x<n):l.length<=n:=Zbe n l hn h
theorem ZhJ(fs:List (Int×Int×Int))(x:Int)(a:Nat):(touK fs x a).length<=fs.length:=Znp _ _ (ZeL fs x a) fun j hj=>(mem_touK.mp hj).1
section
variable {P: Option Addr}{np pc: Nat}{E: Option Addr}{ne ec: Nat}{F: Option Addr}{nf fc: Nat}{R: Option Addr}{nr rc: Nat}{p q: Int}
end
theorem Zpz{l:List Nat}{j:Nat}{z:Int}(h:(nums l)[j]?=some z):∃x:Nat,z=(x:Int)/\l[j]?=some x:=by
  unfold nums at h;rw[List.getElem?_map]at h
  cases hx:l[j]? with
  |none=>rw[hx]at h;cases h
  | some x =>rw[hx]at h;exact⟨x,(Zr h).symm,rfl⟩
section
variable {P: Option Addr}{np pc: Nat}{E: Option Addr}{ne ec: Nat}{F: Option Addr}{nf fc: Nat}{R: Option Addr}{nr rc: Nat}{p q: Int}
end
theorem Zg4{f:Nat->Int}:∀{l1 l2:List Nat},(l1.Pairwise fun i j=>f i<f j)->(l2.Pairwise fun i j=>f i<f j)->(∀x,x∈l1↔x∈l2)->l1=l2
  | [], [],_,_,_=>rfl
  | [],b::l2,_,_,h=>absurd ((h b).mpr (Z3 ..)) (by simp)
  |a::l1, [],_,_,h=>absurd ((h a).mp (Z3 ..)) (by simp)
  | a :: l1, b :: l2, h1, h2, h => by
    rw[List.pairwise_cons]at h1 h2;have e:a=b:=by
      have ha:=(h a).mp (Z3 ..);have hb:=(h b).mpr (Z3 ..);rcases ZT.mp ha with ha|ha
      · exact ha
      · rcases ZT.mp hb with hb|hb
        · exact hb.symm
        · have:=h1.1 b hb;have:=h2.1 a ha;omega
    subst e;rw[Zg4 h1.2 h2.2 fun x=> ?_];have hx:=h x;constructor
    · intro k;rcases ZT.mp (hx.mp (Z1 _ k))with e|k'
      · subst e;have:=h1.1 x k;omega
      · exact k'
    · intro k;rcases ZT.mp (hx.mpr (Z1 _ k))with e|k'
      · subst e;have:=h2.1 x k;omega
      · exact k'
def ownF(fs:List (Int×Int×Int))(x:Int)(k:Nat):List Nat:=(Zo k).filter fun j=>decide ((Zap fs j).2.1=x)
theorem mem_ownF{fs:List (Int×Int×Int)}{x:Int}{k j:Nat}:j∈ownF fs x k↔j<k/\(Zap fs j).2.1=x:=by unfold ownF;rw[YQ,ZD,decide_eq_true_iff]
theorem Znq{fs:List (Int×Int×Int)}{x:Int}{k:Nat}{f:Int×Int×Int}(hf:fs[k]?=some f):ownF fs x (k+1)=if f.2.1=x then ownF fs x k++ [k]else ownF fs x k:=by
 have e:Zap fs k=f:=by unfold Zap;rw[Zi,hf];rfl
 unfold ownF;rw[List.range_succ,List.filter_append];by_cases h:f.2.1=x
 ·rw [Zc h]
  simp[List.filter,e,h]
 ·rw [Zb h]
  simp[List.filter,e,h]
theorem Zg5(fs:List (Int×Int×Int))(x:Int)(k:Nat):(ownF fs x k).Nodup:=List.Nodup.sublist (List.filter_sublist) List.nodup_range
theorem Zk5(fs:List (Int×Int×Int))(x:Int)(k:Nat):(ownF fs x k).length<=k:=by have:=List.length_filter_le (fun j=>decide ((Zap fs j).2.1=x)) (Zo k);rw[List.length_range]at this;exact this
theorem ZjK{fs:List (Int×Int×Int)}(hn:(fs.map fun f=>f.2).Nodup){i j:Nat}(hi:i<fs.length)(hj:j<fs.length)(e:(Zap fs i).2=(Zap fs j).2):i=j:=by
 unfold Zap at e;rw[Zi,Zh hi,Zi,Zh hj]at e;have h4:i<(fs.map fun f=>f.2).length:=by simpa using hi
 have h5:j<(fs.map fun f=>f.2).length:=by simpa using hj
 refine(List.getElem_inj (h₀:=h4) (h₁:=h5) hn).mp ?_;simpa using e
theorem Znr{fs:List (Int×Int×Int)}{j:Nat}(hj:j<fs.length):Zap fs j∈fs:=by unfold Zap;rw[Zi,Zh hj];exact Zz _
theorem ZeM{fs:List (Int×Int×Int)}{x:Int}(hn:(fs.map fun f=>f.2).Nodup):∀a,(touK fs x a).Pairwise fun i j=>(Zap fs i).2.2<(Zap fs j).2.2
  |0=>List.Pairwise.nil
  | a + 1 => by
    show(touK fs x a++selF fs x (a+1) fs.length).Pairwise _;rw[List.pairwise_append];refine⟨ZeM hn a,?_,fun i hi j hj=> ?_⟩
    · have hone:∀i∈selF fs x (a+1) fs.length,∀j∈selF fs x (a+1) fs.length,i=j:=fun i hi j hj=>by
        obtain⟨h1,h2,h3⟩:=mem_selF.mp hi;obtain⟨k1,k2,k3⟩:=mem_selF.mp hj;exact ZjK hn h1 k1 (Prod.ext (h2.trans k2.symm) (h3.trans k3.symm))
      have hnd:=ZeK fs x (a+1) fs.length;rcases hs:selF fs x (a+1) fs.length with _|⟨i,_|⟨j,l⟩⟩
      · exact List.Pairwise.nil
      · exact List.pairwise_singleton _ _
      · rw[hs]at hone hnd;have:=hone i (by simp) j (by simp);rw[List.nodup_cons]at hnd;exact absurd (by rw[this];simp) hnd.1
    · have h1:=(mem_touK.mp hi).2.2.2;have h2:=(mem_selF.mp hj).2.2;omega
def plAt(pl:List Nat)(i:Nat):Nat:=pl.getD i 0
def atOf(fs:List (Int×Int×Int))(pl:List Nat)(i:Nat):Int:=(Zap fs (plAt pl i)).2.2
theorem Zk6{pl:List Nat}{i:Nat}(h:i<pl.length):plAt pl i∈pl:=by unfold plAt;rw[Zi,Zh h];exact Zz _
theorem Zef{ps fs:List (Int×Int×Int)}{x:Int}(hps:ZaM ps)(hfs:FutsOk ps fs){m:Nat}(hm:(ownF fs x fs.length).length=m)(S:List (Fin m))(hp:S.Perm (List.finRange m))
  (hs:S.Pairwise fun(i j:Fin m)=>atOf fs (ownF fs x fs.length) i.val<=atOf fs (ownF fs x fs.length) j.val):(S.map fun(i:Fin m)=>plAt (ownF fs x fs.length) i.val)=touL fs x:=by
 have hmem:∀i:Fin m,plAt (ownF fs x fs.length) i.val∈ownF fs x fs.length:=fun i=>Zk6 (by have:=i.isLt;omega);have hinj:∀i j:Fin m,atOf fs (ownF fs x fs.length) i.val=atOf fs (ownF fs x fs.length) j.val->i=j:=fun i j h=>by
  have h1:=mem_ownF.mp (hmem i);have h2:=mem_ownF.mp (hmem j);have e:=ZjK hfs.once h1.1 h2.1 (Prod.ext (h1.2.trans h2.2.symm) h);unfold plAt at e;have hi:i.val<(ownF fs x fs.length).length:=by have:=i.isLt;omega
  have hj:j.val<(ownF fs x fs.length).length:=by have:=j.isLt;omega
  rw[Zi,Zh hi,Zi,Zh hj]at e;exact Fin.ext ((List.getElem_inj (h₀:=hi) (h₁:=hj) (Zg5 fs x fs.length)).mp (by simpa using e))
 have hnd:S.Nodup:=(hp.nodup_iff).mpr (List.nodup_finRange m);refine Zg4 (f:=fun j=>(Zap fs j).2.2) ?_ (ZeM hfs.once 99) fun j=> ?_
 ·rw [List.pairwise_map]
  refine(hs.and hnd).imp fun{i j} h=> ?_;have:=h.1;have hne:atOf fs (ownF fs x fs.length) i.val≠atOf fs (ownF fs x fs.length) j.val:=fun e=>h.2 (hinj i j e);show atOf fs (ownF fs x fs.length) i.val<atOf fs (ownF fs x fs.length) j.val;omega
 ·show _ ↔ j ∈ touK fs x 99
  rw[mem_touK,YG];constructor
  ·rintro ⟨i,_,rfl⟩
   obtain⟨h1,h2⟩:=mem_ownF.mp (hmem i);have hf:=hfs.each _ (Znr h1);have hu:=hf.user;obtain⟨e,he⟩:∃e,ps[(Zap fs (plAt (ownF fs x fs.length) i.val)).2.1.toNat]?=some e:=⟨_,Zh (by omega)⟩;have hl:=hf.last e he;have hw:=(hps e (List.mem_of_getElem? he)).2.2.2.2.2;exact⟨h1,h2,hf.first,by show _<=(99:Int);omega⟩
  ·rintro ⟨h1,h2,_,_⟩
   have hj:j∈ownF fs x fs.length:=mem_ownF.mpr ⟨h1,h2⟩;obtain⟨k,hk⟩:=List.mem_iff_getElem?.mp hj;have hkl:=(List.getElem?_eq_some_iff.1 hk).1;refine⟨⟨k,by omega⟩,hp.mem_iff.mpr (List.mem_finRange _),?_⟩;show(ownF fs x fs.length).getD k 0=j;rw[Zi,hk];rfl
end Go.Proofs.YtfahabphncmbfaaGreatDoor
