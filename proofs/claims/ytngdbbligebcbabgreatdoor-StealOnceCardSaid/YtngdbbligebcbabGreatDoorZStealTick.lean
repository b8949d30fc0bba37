import Derived.Test.YtngdbbligebcbabGreatDoorZM13
import Derived.Test.YtngdbbligebcbabGreatDoorZM21
import Derived.Test.YtngdbbligebcbabGreatDoorZM29
import Derived.Test.YtngdbbligebcbabGreatDoorZM31
import Derived.Test.YtngdbbligebcbabGreatDoorZStealCopied
import Derived.Test.YtngdbbligebcbabGreatDoorZStored4
set_option linter.unusedVariables false
set_option linter.unusedSimpArgs false
set_option maxRecDepth 100000
set_option maxHeartbeats 16000000
namespace Go.Proofs.YtngdbbligebcbabGreatDoor
open Go Go.RowKit
theorem isOther_any{W:World}{q:Nat}{A2:Option Addr}{c2:Nat}{ys:List Int}{B:Nat}(hc:W.cell? ⟨q,0,none⟩=some (.slice A2 ys.length c2))(hy:Ints W B A2 ys)(hl:ys.length<=1000)(x:Int):
  Calls Tryz.prog 67 #[.int .i64 x,.pointer (some ⟨q,0,none⟩)] W fun e w'=>e= .returned (.bool (!decide (x∈ys)))/\w'=W:=by
 have C:=Lib.hid (contains_any A2 c2 ys.length ys x B W rfl hl hy);obtain⟨b,hb⟩: ∃b,b=decide (x∈ys):=⟨_,rfl⟩;rw[<-hb]at C⊢;clear hb hy;go_enter Tryz.func67,Tryz.ntmps67
 go_wp2_with(go_at_call 66;refine C.out.mono ?_;rintro e w' ⟨rfl,rfl⟩)
 go_ret;exact⟨rfl,rfl⟩
theorem isMine_any{W:World}{q:Nat}{A2:Option Addr}{c2:Nat}{ys:List Int}{B:Nat}(hc:W.cell? ⟨q,0,none⟩=some (.slice A2 ys.length c2))(hy:Ints W B A2 ys)(hl:ys.length<=1000)(x:Int):
  Calls Tryz.prog 72 #[.int .i64 x,.pointer (some ⟨q,0,none⟩)] W fun e w'=>e= .returned (.bool (decide (x∈ys)))/\w'=W:=by
 have C:=Lib.hid (contains_any A2 c2 ys.length ys x B W rfl hl hy);obtain⟨b,hb⟩: ∃b,b=decide (x∈ys):=⟨_,rfl⟩;rw[<-hb]at C⊢;clear hb hy;go_enter Tryz.func72,Tryz.ntmps72
 go_wp2_with(go_at_call 66;refine C.out.mono ?_;rintro e w' ⟨rfl,rfl⟩)
 go_ret;exact⟨rfl,rfl⟩
theorem fx_free{P:Program}{o:Oper}{a:Act}{w:World}{K:Act->World->Prop}{Q:Exit->Act->World->Prop}(f:FuncId)(xs:Array Operand)(tys:Array TypeId)(vs:Array Value)
  (ho:o.op= .call {callee:=.value (.func f),args:=xs,argTypes:=tys}) (hxs:xs.map a.eval=vs) (eg: ∀args w,(callFunc f args).run P w= .ok (.enter f args) w)
  (h:Calls P f vs w fun e w'=> ∃v,e= .returned v/\K (a.put o.dst v) w'):o.wp P a w K Q:=by
 have hr:(execOp a.eval o).run P w= .ok (.enter f vs) w:=by
  have:=eg vs w;simp[execOp,ho,resolve,hxs,invoke,Deferred.ofValue,Act.eval,this,go_sem]
 unfold Oper.wp;rw[hr,Oper.upon_enter];refine h.mono fun e w' ⟨v,he,hv⟩=> ?_
 subst he;exact hv
section
variable {w w': World} {base gw m: Nat} {g: Gng} {L: List Int} {a: GAd} {vW vE: Value} {bs: List Nat}
theorem IsGng.kp(h:IsGng w base m g L a)(hk:Kp bs w w')(hO:a.gO∉bs)(hL: ∀b,a.vL.ownBlock=some b->b∉bs)(hD:a.gD∉bs)(hT:a.gT∉bs)(hF:a.gF∉bs)(hR: ∀j,j<m-> ∀b,(a.Rv j).ownBlock=some b->b∉bs):IsGng w' base m g L a:=by
 have one: ∀{n c q:Nat},q∉bs-> ∀b,(Value.slice (some ⟨q,0,none⟩) n c).ownBlock=some b->b∉bs:=fun hq b e=>by
  injection e with e;exact e▸hq
 exact⟨h.ol,hk.own h.on (one hO),hk.own h.left hL,hk.own h.dqs (one hD),hk.own h.tks (one hT),hk.own h.frm (one hF),fun j hj=>hk.own (h.ring j hj) (hR j hj),h.oL,h.oF,h.oR,h.fL,h.fR⟩
theorem IsGng.crewPut{w1:World}(h:IsGng w1 base m g L a)(hb:Below w1.heap.size w1 w){gO cO:Nat}{FL:Option Addr}{nL cL:Nat}{O2 L2:List Int}(hr:RowsC w1.heap.size gO FL m nL cO cL O2 L2 w):
  IsGng w base m {g with O:=O2} L2 {a with gO:=gO,cO:=cO,vL:=.slice FL nL cL}:=by
 have hb2:=h.below hb;have hle:base<=w1.heap.size:=by have:=h.lts;omega
 have hO1:w1.heap.size<=gO:=(hr.rO.blockLt gO rfl).1;have hL1: ∀b,(Value.slice FL nL cL).ownBlock=some b->w1.heap.size<=b:=fun b e=>(hr.rL.blockLt b e).1
 have hl:=h.lts;refine⟨hr.rO.len_eq,hr.rO.down hle,hr.rL.down hle,hb2.dqs,hb2.tks,hb2.frm,hb2.ring,fun hL0 e=> ?_,fun e=> ?_,fun j hj e=> ?_,fun e=> ?_,hb2.fR⟩
 ·obtain ⟨gL,e1,e2⟩:=hr.ne (by rw [<- hr.rL.len_eq]; exact hL0)
  replace e:(Value.slice FL nL cL).ownBlock=some gO:=e;rw[e1]at e;injection e with e;exact e2 e.symm
 ·replace e: a.gF = gO:=e
  omega
 ·have:=((h.ring j hj).blockLt gO e).2
  omega
 ·have:=hL1 _ e
  replace this:w1.heap.size<=a.gF:=this;omega
end
def PhiK2(b gw m nLo cOo cLo:Nat)(gOo:Nat)(ALo:Option Addr)(O2 L2 D2:List Int)(vW vE:Value):Nat->Value->World->Prop
 |0,v,w=>v= .pointer (some ⟨gw,0,none⟩)
 |1,v,w=>v= .pointer (some ⟨gw,0,none⟩)
 |2,v,w=>v= .pointer (some ⟨gw,5,none⟩)
 |3,v,w=>v= .agg #[vW,vE]
 |4,v,w=>v= .pointer (some ⟨gw,0,none⟩)
 |5,v,w=>v= .pointer (some ⟨gw,0,none⟩)
 |6,v,w=>v= .pointer (some ⟨gw,0,none⟩)
 |7,v,w=>v= .pointer (some ⟨gw,0,none⟩)
 |8,v,w=>v= .agg #[.slice (some ⟨gOo,0,none⟩) m cOo,.slice ALo nLo cLo]
 |9,v,w=> ∃gO cO FL cL A5 c5,v= .tuple #[.agg #[.slice (some ⟨gO,0,none⟩) m cO,.slice FL nLo cL],.slice A5 D2.length c5,.int .i64 0]/\RowsC b gO FL m nLo cO cL O2 L2 w/\OwnI w b (.slice A5 D2.length c5) D2
 |10,v,w=> ∃gO cO FL cL A5 c5,v= .tuple #[.agg #[.slice (some ⟨gO,0,none⟩) m cO,.slice FL nLo cL],.slice A5 D2.length c5,.int .i64 0]/\RowsC b gO FL m nLo cO cL O2 L2 w/\OwnI w b (.slice A5 D2.length c5) D2
 |11,v,w=> ∃gO cO FL cL,v= .agg #[.slice (some ⟨gO,0,none⟩) m cO,.slice FL nLo cL]/\RowsC b gO FL m nLo cO cL O2 L2 w
 |12,v,w=> ∃A5 c5,v= .slice A5 D2.length c5/\OwnI w b (.slice A5 D2.length c5) D2
 |13,v,w=>v= .int .i64 0
 |14,v,w=> ∃q,v= .pointer (some ⟨q,0,none⟩)/\b<=q/\RowV q 37 [.slice none 0 0,.slice none 0 0] w
 |15,v,w=>True
 |16,v,w=> ∃A5 c5,v= .slice A5 D2.length c5/\OwnI w b (.slice A5 D2.length c5) D2
 |17,v,w=>v= .int .i64 0
 |_,_,_=>True
theorem phiK2_below(b gw m nLo cOo cLo:Nat)(gOo:Nat)(ALo:Option Addr)(O2 L2 D2:List Int)(vW vE:Value): ∀kq v w w',PhiK2 b gw m nLo cOo cLo gOo ALo O2 L2 D2 vW vE kq v w->Below w.heap.size w w'->PhiK2 b gw m nLo cOo cLo gOo ALo O2 L2 D2 vW vE kq v w':=by
 intro kq v w w' h hb
 match kq,h with
 |0,h=>exact h
 |1,h=>exact h
 |2,h=>exact h
 |3,h=>exact h
 |4,h=>exact h
 |5,h=>exact h
 |6,h=>exact h
 |7,h=>exact h
 |8,h=>exact h
 |9,h=>exact by obtain⟨gO,cO,FL,cL,A5,c5,e,hr,ho⟩:=h;exact⟨gO,cO,FL,cL,A5,c5,e,hr.next hb,OwnI.below ho hb⟩
 |10,h=>exact by obtain⟨gO,cO,FL,cL,A5,c5,e,hr,ho⟩:=h;exact⟨gO,cO,FL,cL,A5,c5,e,hr.next hb,OwnI.below ho hb⟩
 |11,h=>exact by obtain⟨gO,cO,FL,cL,e,hr⟩:=h;exact⟨gO,cO,FL,cL,e,hr.next hb⟩
 |12,h=>exact by obtain⟨A5,c5,e,ho⟩:=h;exact⟨A5,c5,e,OwnI.below ho hb⟩
 |13,h=>exact h
 |14,h=>exact by obtain⟨q,e,hq,hr⟩:=h;exact⟨q,e,hq,hr.below hb hr.lt⟩
 |15,h=>exact h
 |16,h=>exact by obtain⟨A5,c5,e,ho⟩:=h;exact⟨A5,c5,e,OwnI.below ho hb⟩
 |17,h=>exact h
 |kq+18,h=>exact trivial
def PhiK6(b3 gw gO m cO nLo cL:Nat)(FL:Option Addr)(R0:List Int)(vW vE:Value):Nat->Value->World->Prop
 |0,v,w=>v= .pointer (some ⟨gw,0,none⟩)
 |1,v,w=>v= .pointer (some ⟨gw,0,none⟩)
 |2,v,w=>v= .pointer (some ⟨gw,5,none⟩)
 |3,v,w=>v= .agg #[vW,vE]
 |4,v,w=>v= .agg #[.slice (some ⟨gO,0,none⟩) m cO,.slice FL nLo cL]
 |5,v,w=> ∃A6 c6,v= .slice A6 R0.length c6/\OwnI w b3 (.slice A6 R0.length c6) R0
 |6,v,w=> ∃q,v= .pointer (some ⟨q,0,none⟩)/\b3<=q/\RowV q 22 [.slice none 0 0] w
 |_,_,_=>True
theorem phiK6_below{b3 gw gO m cO nLo cL:Nat}{FL:Option Addr}{R0:List Int}{vW vE:Value}: ∀kq v w w',PhiK6 b3 gw gO m cO nLo cL FL R0 vW vE kq v w->Below w.heap.size w w'->PhiK6 b3 gw gO m cO nLo cL FL R0 vW vE kq v w':=by
 intro kq v w w' h hb
 match kq,h with
 |0,h=>exact h
 |1,h=>exact h
 |2,h=>exact h
 |3,h=>exact h
 |4,h=>exact h
 |5,h=>exact(by obtain⟨A6,c6,e,ho⟩:=h;exact⟨A6,c6,e,OwnI.below ho hb⟩)
 |6,h=>exact(by obtain⟨q,e,h1,h2⟩:=h;exact⟨q,e,h1,h2.below hb h2.lt⟩)
 |kq+7,h=>exact trivial
def ThtK6(w3:World)(b3:Nat)(R0:List Int)(t:Nat)(f:Nat->Value)(w:World):Prop:=
 7<=t/\t<=8/\(t=7->(∃A6 c6,f 47= .slice A6 R0.length c6/\OwnI w b3 (.slice A6 R0.length c6) R0)/\(∃q,f 8= .pointer (some ⟨q,0,none⟩)/\b3<=q/\RowV q 22 [.slice none 0 0] w)/\Below w3.heap.size w3 w)/\
  (t=8-> ∃q A6 c6,f 8= .pointer (some ⟨q,0,none⟩)/\b3<=q/\RowV q 22 [.slice A6 R0.length c6] w/\OwnI w b3 (.slice A6 R0.length c6) R0/\Below w3.heap.size w3 w)
def PhiK13(gw gD k nM cs:Nat)(As:Option Addr):Nat->Value->World->Prop
 |0,v,w=>v= .slice As nM cs
 |1,v,w=>v= .pointer (some ⟨gw,0,none⟩)
 |2,v,w=>v= .int .i64 k
 |3,v,w=>v= .agg #[.pointer (some ⟨gD,3 * k,none⟩)]
 |4,v,w=>v= .func (.func 71) #[.agg #[.pointer (some ⟨gD,3 * k,none⟩)]] #[]
 |_,_,_=>True
theorem phiK13_below{gw gD k nM cs:Nat}{As:Option Addr}: ∀kq v w w',PhiK13 gw gD k nM cs As kq v w->Below w.heap.size w w'->PhiK13 gw gD k nM cs As kq v w':=by
 intro kq v w w' h hb
 match kq,h with
 |0,h=>exact h
 |1,h=>exact h
 |2,h=>exact h
 |3,h=>exact h
 |4,h=>exact h
 |kq+5,h=>exact trivial
def ThtK13(wa:World)(base gw m k:Nat)(gk:Gng)(L2:List Int)(ad1:GAd)(vW vE:Value)(nM cs gD:Nat)(As A6:Option Addr)(t:Nat)(f:Nat->Value)(w:World):Prop:=
 5<=t/\t<=7/\(t=5->f 68= .slice As nM cs/\f 72= .func (.func 71) #[.agg #[.pointer (some ⟨gD,3 * k,none⟩)]] #[]/\Below wa.heap.size wa w)/\
  (6<=t-> ∃Rv',IsWk w base gw m gk L2 {ad1 with Rv:=Rv'} vW vE/\Kp [ad1.gD] wa w/\ ∀j,j<m-> ∀q,(Value.slice A6 0 0).ownBlock=some q->(Rv' j).ownBlock≠some q)/\(t=6->f 73= .int .i64 0)/\(t=7->f 13= .int .i64 0)
theorem own_ints_kp{w z:World}{b n c:Nat}{A:Option Addr}{zs:List Int}{bs:List Nat}(h:OwnI w b (.slice A n c) zs)(hk:Kp bs w z)(hn: ∀q,(Value.slice A n c).ownBlock=some q->q∉bs):Ints z w.heap.size A zs:=by
 have hO:=hk.own h hn;rcases h.2 with⟨e,hx⟩|⟨g,cap,cur,e,hg,hgg,rest⟩
 ·injection e with e1 e2 e3
  have:zs= []:=List.eq_nil_of_length_eq_zero hx;rw[this];exact Ints.nil_ _ _ _
 ·injection e with e1 e2 e3
  subst e1;have hgl:g<w.heap.size:=(Array.getElem?_eq_some_iff.1 hgg).1
  intro hn;obtain⟨b,off,e4,_,hcl⟩:=OwnI.ints hO hn;injection e4 with e4;injection e4 with e4 e5;subst e4 e5;exact⟨g,0,rfl,hgl,hcl⟩
def ThtK2(w0:World)(b m nLo:Nat)(O2 L2:List Int)(f:Nat->Value)(w:World):Prop:=
 ∃q gO cO FL cL,f 5= .pointer (some ⟨q,0,none⟩)/\b<=q/\Below w0.heap.size w0 w/\RowV q 37 [.slice (some ⟨gO,0,none⟩) m cO,.slice FL nLo cL] w/\RowsC b gO FL m nLo cO cL O2 L2 w
theorem own_farT{w:World}{b n s:Nat}{e t:TypeId}{v:Value}{xs:List Value}{q k:Nat}{vs:List Value}(h:w.ownsRow b e s v n xs)(hq:RowV q t vs w)(hne:e≠t)(u:Value):(w.setCell ⟨q,k,none⟩ u).ownsRow b e s v n xs:=
 rowN_far h (rowN_types h (show w.heap[q]? =some (.cells vs.toArray t (0,0))from hq) hne)
theorem RowsC.farT{w:World}{b gO:Nat}{FL:Option Addr}{n m cO cL:Nat}{O L:List Int}{q k:Nat}{t:TypeId}{vs:List Value}(h:RowsC b gO FL n m cO cL O L w)(hq:RowV q t vs w)(hne:3≠t)(u:Value):RowsC b gO FL n m cO cL O L (w.setCell ⟨q,k,none⟩ u):=
 ⟨own_farT h.rO hq hne u,own_farT h.rL hq hne u,h.ne⟩
theorem obS(A:Option Addr)(n c n' c':Nat):(Value.slice A n c).ownBlock=(Value.slice A n' c').ownBlock:=by cases A<;>rfl
theorem own_onc{w:World}{b gO cO m:Nat}{O:List Int}(h:OwnI w b (.slice (some ⟨gO,0,none⟩) m cO) O)(hl:O.length=m){c:Nat}(hc:c<m):w.cell? ⟨gO,c,none⟩=some (.int .i64 (O.getD c 0)):=by
 have h1:=h;unfold OwnI at h1;rw[hl]at h1;refine rowN_cell h1 ?_
 have hc':c<O.length:=by rw[hl];exact hc
 rw[List.getElem?_map,List.getElem?_eq_getElem hc',List.getD_eq_getElem?_getD,List.getElem?_eq_getElem hc'];rfl
structure TkSt(w0:World)(base gw m n:Nat)(E:List (Int×Int))(L:List Int)(g:Gng)(ad ad1:GAd)(vW vE:Value)(g8:Nat)(A5:Option Addr)(c5:Nat)(k:Nat)(Rv:Nat->Value)(A6:Option Addr)(c6:Nat)(w:World):Prop where
 kp:Kp [gw,ad.gD] w0 w
 wk:IsWk w base gw m (tickK n E L g k).1 (leftT g.O L) {ad1 with Rv:=Rv} vW vE
 b8:RowV g8 22 [.slice A6 (nums (rdyK n E g.O L (tickK n E L g k).2)).length c6] w
 h8:w0.heap.size<=g8
 rdy:OwnI w w0.heap.size (.slice A6 (nums (rdyK n E g.O L (tickK n E L g k).2)).length c6) (nums (rdyK n E g.O L (tickK n E L g k).2))
 dn:OwnI w w0.heap.size (.slice A5 (nums (doneT g.O L)).length c5) (nums (doneT g.O L))
 aD: ∀q,(Value.slice A6 0 0).ownBlock=some q->(Value.slice A5 0 0).ownBlock≠some q
 aO:(Value.slice A6 0 0).ownBlock≠some ad1.gO
 aL: ∀q,(Value.slice A6 0 0).ownBlock=some q->ad1.vL.ownBlock≠some q
 aF:(Value.slice A6 0 0).ownBlock≠some ad1.gF
 aR: ∀j,j<m-> ∀q,(Value.slice A6 0 0).ownBlock=some q->(Rv j).ownBlock≠some q
section
variable {w0 w w': World} {base gw m n: Nat} {E: List (Int × Int)} {L: List Int} {g: Gng} {ad ad1: GAd} {vW vE: Value} {g8: Nat} {A5: Option Addr} {c5 k: Nat} {Rv: Nat -> Value} {A6: Option Addr} {c6: Nat}
theorem TkSt.next(h:TkSt w0 base gw m n E L g ad ad1 vW vE g8 A5 c5 k Rv A6 c6 w)(hb:Below w.heap.size w w'):TkSt w0 base gw m n E L g ad ad1 vW vE g8 A5 c5 k Rv A6 c6 w':=
 ⟨h.kp.trans (Kp.of_below hb _),h.wk.below hb,h.b8.below hb h.b8.lt,h.h8,OwnI.below h.rdy hb,OwnI.below h.dn hb,h.aD,h.aO,h.aL,h.aF,h.aR⟩
theorem TkSt.skip(h:TkSt w0 base gw m n E L g ad ad1 vW vE g8 A5 c5 k Rv A6 c6 w)(hno: ¬(g.O.getD k 0≠ -1/\leftC L (g.O.getD k 0)=1)):TkSt w0 base gw m n E L g ad ad1 vW vE g8 A5 c5 (k+1) Rv A6 c6 w:=by
 have e:tickK n E L g (k+1)=tickK n E L g k:=by
  show(pushesG (tickK n E L g k).1 k (mineG n E g.O L (tickK n E L g k).2 k),(tickK n E L g k).2++mineG n E g.O L (tickK n E L g k).2 k)=_
  rw[mine_no hno,List.append_nil];rfl
 exact⟨h.kp,by rw[e];exact h.wk,by rw[e];exact h.b8,h.h8,by rw[e];exact h.rdy,h.dn,h.aD,h.aO,h.aL,h.aF,h.aR⟩
theorem TkSt.done{w3 w4 w5:World}{Rv':Nat->Value}(h:TkSt w0 base gw m n E L g ad ad1 vW vE g8 A5 c5 k Rv A6 c6 w3)(hgD:ad1.gD=ad.gD)
  (hwk:IsWk w4 base gw m (pushesG (tickK n E L g k).1 k (mineG n E g.O L (tickK n E L g k).2 k)) (leftT g.O L) {ad1 with Rv:=Rv'} vW vE) (hkp:Kp [ad1.gD] w3 w4) (hR: ∀j,j<m-> ∀q,(Value.slice A6 0 0).ownBlock=some q->(Rv' j).ownBlock≠some q)
  (ho:OwnI w5 w0.heap.size (.slice A6 (nums (rdyK n E g.O L (tickK n E L g (k+1)).2)).length c6) (nums (rdyK n E g.O L (tickK n E L g (k+1)).2)))
  (hk5: ∀bs:List Nat,(∀b,(Value.slice A6 0 0).ownBlock=some b->b∈bs)->Kp bs w4 w5):
  TkSt w0 base gw m n E L g ad ad1 vW vE g8 A5 c5 (k+1) Rv' A6 c6 (w5.setCell ⟨g8,0,none⟩ (.slice A6 (nums (rdyK n E g.O L (tickK n E L g (k+1)).2)).length c6)):=by
 obtain⟨bs,hbs⟩: ∃bs:List Nat,∀b,(Value.slice A6 0 0).ownBlock=some b↔b∈bs:=by
  cases e:(Value.slice A6 0 0).ownBlock with
  |none=>exact⟨[],fun b=>by simp⟩
  |some q=>exact⟨[q],fun b=>by simp;exact eq_comm⟩
 have k5:=hk5 bs fun b hb=>(hbs b).mp hb
 have no: ∀{q:Nat},(Value.slice A6 0 0).ownBlock≠some q->q∉bs:=fun hq hm=>hq ((hbs _).mpr hm)
 have own3:=h.wk.gng;have hwlt:=h.kp.size;have hb8lo: ∀q∈bs,w0.heap.size<=q:=fun q hq=>by
  have h1:=(hbs q).mpr hq;rw[obS A6 0 0 (nums (rdyK n E g.O L (tickK n E L g k).2)).length c6]at h1;exact(h.rdy.blockLt q h1).1
 have g8D:g8≠ad1.gD:=fun e=>by
  have h1:=h.b8;obtain⟨cur,h2,_⟩:=rowN_block own3.dqs;unfold RowV at h1;rw[e]at h1;replace h2:w3.heap[ad1.gD]? =_:=h2
  rw[h2]at h1;injection h1 with h1;injection h1 with _ h1 _;exact absurd h1 (by decide)
 have typ: ∀{t:TypeId} {e:TypeId} {s nn:Nat} {v:Value} {xs vs:List Value} {q:Nat} {wx:World} {bx:Nat},wx.ownsRow bx e s v nn xs->RowV q t vs wx->e≠t->v.ownBlock≠some q:=fun ho hr hne=>rowN_types ho (show _ from hr) hne
 have r8:RowV g8 22 [.slice A6 (nums (rdyK n E g.O L (tickK n E L g k).2)).length c6] w4:=hkp.row h.b8 (by simpa using g8D)
 have r85:RowV g8 22 [.slice A6 (nums (rdyK n E g.O L (tickK n E L g k).2)).length c6] w5:=k5.row r8 (no fun q=>by
  rw[obS A6 0 0 (nums (rdyK n E g.O L (tickK n E L g k).2)).length c6]at q;exact typ h.rdy h.b8 (by decide) q)
 have gwbs:gw∉bs:=no fun q=>by
  rw[obS A6 0 0 (nums (rdyK n E g.O L (tickK n E L g k).2)).length c6]at q;exact typ h.rdy h.wk.row (by decide) q
 have tybs: ∀{e:TypeId} {s nn c q:Nat} {xs:List Value},e≠3->w3.ownsRow base e s (.slice (some ⟨q,0,none⟩) nn c) nn xs->q∉bs:=fun hne hx=>no fun q2=>by
  rw[obS A6 0 0 (nums (rdyK n E g.O L (tickK n E L g k).2)).length c6]at q2;obtain⟨cur,h2,_⟩:=rowN_block hx;exact rowN_types h.rdy h2 hne.symm q2
 have g5:IsGng w5 base m (pushesG (tickK n E L g k).1 k (mineG n E g.O L (tickK n E L g k).2 k)) (leftT g.O L) {ad1 with Rv:=Rv'}:=
  hwk.gng.kp k5 (no h.aO) (fun b hb hm=>h.aL b ((hbs b).mpr hm) hb) (tybs (by decide) own3.dqs) (tybs (by decide) own3.tks) (no h.aF) (fun j hj b hb hm=>hR j hj b ((hbs b).mpr hm) hb)
 have g8gw:gw≠g8:=fun e=>by
  have h1:=h.b8;have h2:=h.wk.row;unfold RowV at h1 h2;rw[<-e,h2]at h1;injection h1 with h1;injection h1 with _ h1 _;exact absurd h1 (by decide)
 have rowgw:RowV gw 73 (gangC m {ad1 with Rv:=Rv'}++ [vW,vE]) w5:=k5.row hwk.row gwbs;have rowgw2:RowV gw 73 (gangC m {ad1 with Rv:=Rv'}++ [vW,vE]) (w5.setCell ⟨g8,0,none⟩ (.slice A6 (nums (rdyK n E g.O L (tickK n E L g (k+1)).2)).length c6)):=rowgw.far g8gw;refine⟨?_,⟨rowgw2,hwk.hw,g5.far r85 (by decide) (by decide) (by decide) 0 _⟩,r85.set 0 _,h.h8,own_farT ho r85 (by decide) _,?_,h.aD,h.aO,h.aL,h.aF,hR⟩
 ·have h1: Kp [gw,ad.gD] w0 w4:=h.kp.trans (hkp.more (by rw [hgD]; simp))
  refine⟨k5.os.trans h1.os,k5.tape.trans h1.tape,k5.output.trans h1.output,?_,fun j hj hn=> ?_⟩
  ·exact Nat.le_trans (Nat.le_trans h1.size k5.size) ((Below.refl 0 w5).setCell (p:=⟨g8,0,none⟩) (Nat.zero_le _) _).size
  ·rw [heap_setCell_other _ _ _ _ (fun q => by have:=h.h8; replace q: j = g8:=q; omega)]
   rw[k5.block j (Nat.lt_of_lt_of_le hj h1.size) (fun q=>by have:=hb8lo j q;omega)]
   exact h1.block j hj hn
 ·refine own_farT (k5.own (hkp.own h.dn (fun b hb q => ?_)) (fun b hb q => ?_)) r85 (by decide) _
  ·rw [List.mem_singleton] at q
   obtain⟨cur,h2,_⟩:=rowN_block own3.dqs;exact rowN_types h.dn h2 (by decide) (q▸hb)
  ·have h1:=(hbs b).mpr q
   refine h.aD b h1 ?_
   rw[obS A5 0 0 (nums (doneT g.O L)).length c5];exact hb
end
section
variable {base gw m: Nat} {g: Gng} {L: List Int} {ad: GAd} {W: List Int} {E: List (Int × Int)} {WA: Option Addr} {Wn Wc: Nat} {EF: Option Addr} {Em Ed: Nat}
theorem tick_any(w0:World)(hok:GOk W.length m E L g)(h0: ∀c,c<m->(g.tk c).at_=0)(hM:May W E)(hg:IsGrS w0 base WA Wn Wc EF Em Ed W E)
    (h:IsWk w0 base gw m g L ad (.slice WA Wn Wc) (.slice EF Em Ed)):
    Calls Tryz.prog 35 #[.pointer (some ⟨gw,0,none⟩)] w0 fun e w'=> ∃A5 c5 a',e= .returned (.tuple #[.slice A5 (nums (doneT g.O L)).length c5, .int .i64 0])/\OwnI w' w0.heap.size (.slice A5 (nums (doneT g.O L)).length c5) (nums (doneT g.O L))/\
      IsWk w' base gw m (tickG W.length m E L g) (leftT g.O L) a' (.slice WA Wn Wc) (.slice EF Em Ed)/\(a'.gD=ad.gD/\a'.gT=ad.gT/\a'.gF=ad.gF/\w0.heap.size<=a'.gO)/\Kp [gw,ad.gD] w0 w':=by
  have hm8:m<=8:=by rw[<-hok.ol];exact hok.crew.hi
  have hL64:L.length<=64:=by rw[hok.crew.ln];exact hok.n64
  obtain⟨ALo,cLo,hvLo,hC⟩:=h.gng.crew hm8 (by omega)
  obtain⟨nLo,hnLo⟩: ∃x,x=L.length:=⟨_,rfl⟩;rw[<-hnLo]at hvLo hC;obtain⟨vW,hvW⟩: ∃v,v=Value.slice WA Wn Wc:=⟨_,rfl⟩;obtain⟨vE,hvE⟩: ∃v,v=Value.slice EF Em Ed:=⟨_,rfl⟩;rw[<-hvW,<-hvE]at h⊢;obtain⟨O2,hO2⟩: ∃x,x=onT g.O L:=⟨_,rfl⟩;obtain⟨L2,hL2⟩: ∃x,x=leftT g.O L:=⟨_,rfl⟩;obtain⟨D2,hD2⟩: ∃x,x=nums (doneT g.O L):=⟨_,rfl⟩;rw[<-hD2,<-hL2];obtain⟨b,hbb⟩: ∃b,b=w0.heap.size:=⟨_,rfl⟩;obtain⟨gOo,hgOo⟩: ∃x,x=ad.gO:=⟨_,rfl⟩;obtain⟨cOo,hcOo⟩: ∃x,x=ad.cO:=⟨_,rfl⟩;rw[<-hgOo,<-hcOo]at hC;have HVO:Hid (ad.vO m= .slice (some ⟨gOo,0,none⟩) m cOo):=Lib.hid (by rw[hgOo,hcOo];rfl)
  have HVL:=Lib.hid hvLo;have HC:=Lib.hid hC;have HVW:=Lib.hid hvW;have HVE:=Lib.hid hvE;have HO2:=Lib.hid hO2.symm;have HL2:=Lib.hid hL2.symm;have HD2:=Lib.hid hD2.symm;have HBB:=Lib.hid hbb;have HG:=Lib.hid hg;have HM:=Lib.hid hM;have HMF:Hid (Fits W.length E):=Lib.hid hM.fits;have HOK:=Lib.hid hok;have HH0:=Lib.hid h0;have H0:=Lib.hid h;have HCZ:Hid (crewE W E g.O L=0):=Lib.hid (crewE_zero.mpr ⟨hM,hok.crew⟩);have HBS:Hid (base<=w0.heap.size):=Lib.hid (by have:=h.gng.lts;omega)
  have HNL:=Lib.hid hnLo;have HGO:=Lib.hid hgOo;clear hok h0 hM hg h hC hvLo hvW hvE hO2 hL2 hD2 hbb hgOo hcOo hnLo;go_enter Tryz.func35,Tryz.ntmps35;have c0:w0.cell? ⟨gw,0,none⟩=some (.slice (some ⟨gOo,0,none⟩) m cOo):=by rw[<-HVO.out];exact H0.out.row.cell rfl
  go_upto_region 2 with fail
  refine wp_region_stored4 15 [21,22,23,24,25,26,27,28,29,30,20,31,32,33,5,1000,6,7] [12,13,16,17] [10,12,13,16,17] w0.heap.size (by kernel_rfl) (by kernel_rfl) (by intro d hd;simp at hd⊢;omega) (fun z=>Below w0.heap.size w0 z) (PhiK2 b gw m nLo cOo cLo gOo ALo O2 L2 D2 vW vE) (ThtK2 w0 b m nLo O2 L2)
    (fun z z' h hb=>h.trans (hb.mono h.size)) (phiK2_below b gw m nLo cOo cLo gOo ALo O2 L2 D2 vW vE) ((Below.refl _ _).drew) ?hstep ?hside ?hstore ?htheta ?hthetab (Nat.le_refl _) ?hend
  case hstep=>
    intro kq o hkp hkS ho a w hI hA hd K hK;obtain⟨ρ,hρ⟩: ∃ρ,a.eval=ρ:=⟨_,rfl⟩;rw[hρ]at hA hd
    match kq,hkp,hkS,ho with
    | 0, _, _, ho =>
      have hoo:=Option.some.inj ho;subst hoo;exact fx_val hK hρ (.pointer (some ⟨gw,0,none⟩)) (by have h:=hA.tmp 0 (by decide);simp[execOp,h,go_sem]) rfl
    | 1, _, _, ho =>
      have hoo:=Option.some.inj ho;subst hoo;have f0:(ρ (.tmp 21))= .pointer (some ⟨gw,0,none⟩):=hd ⟨0, .data⟩ (by simp) (by rfl)
      exact fx_val hK hρ (.pointer (some ⟨gw,0,none⟩)) (by simp[execOp,f0,hA.const,go_sem]) rfl
    | 2, _, _, ho =>
      have hoo:=Option.some.inj ho;subst hoo;have f1:(ρ (.tmp 22))= .pointer (some ⟨gw,0,none⟩):=hd ⟨1, .data⟩ (by simp) (by rfl)
      exact fx_val hK hρ (.pointer (some ⟨gw,5,none⟩)) (by simp[execOp,f1,hA.const,go_sem]) rfl
    | 3, _, _, ho =>
      have hoo:=Option.some.inj ho;subst hoo;have f2:(ρ (.tmp 23))= .pointer (some ⟨gw,5,none⟩):=hd ⟨2, .data⟩ (by simp) (by rfl)
      have h0:w.cell? ⟨gw,5,none⟩=some vW:=(H0.out.below hI).row.cell rfl
      have h1:w.cell? ⟨gw,6,none⟩=some vE:=(H0.out.below hI).row.cell rfl
      rw[HVW.out]at h0;rw[HVE.out]at h1;exact fx_val hK hρ (.agg #[vW,vE]) (by rw[HVW.out,HVE.out];simp[execOp,f2,h0,h1,go_sem]) rfl
    | 4, _, _, ho =>
      have hoo:=Option.some.inj ho;subst hoo;exact fx_val hK hρ (.pointer (some ⟨gw,0,none⟩)) (by have h:=hA.tmp 0 (by decide);simp[execOp,h,go_sem]) rfl
    | 5, _, _, ho =>
      have hoo:=Option.some.inj ho;subst hoo;have f4:(ρ (.tmp 25))= .pointer (some ⟨gw,0,none⟩):=hd ⟨4, .data⟩ (by simp) (by rfl)
      exact fx_val hK hρ (.pointer (some ⟨gw,0,none⟩)) (by simp[execOp,f4,hA.const,go_sem]) rfl
    | 6, _, _, ho =>
      have hoo:=Option.some.inj ho;subst hoo;have f5:(ρ (.tmp 26))= .pointer (some ⟨gw,0,none⟩):=hd ⟨5, .data⟩ (by simp) (by rfl)
      exact fx_val hK hρ (.pointer (some ⟨gw,0,none⟩)) (by simp[execOp,f5,hA.const,go_sem]) rfl
    | 7, _, _, ho =>
      have hoo:=Option.some.inj ho;subst hoo;have f6:(ρ (.tmp 27))= .pointer (some ⟨gw,0,none⟩):=hd ⟨6, .data⟩ (by simp) (by rfl)
      exact fx_val hK hρ (.pointer (some ⟨gw,0,none⟩)) (by simp[execOp,f6,hA.const,go_sem]) rfl
    | 8, _, _, ho =>
      have hoo:=Option.some.inj ho;subst hoo;have f7:(ρ (.tmp 28))= .pointer (some ⟨gw,0,none⟩):=hd ⟨7, .data⟩ (by simp) (by rfl)
      have h0:w.cell? ⟨gw,0,none⟩=some (.slice (some ⟨gOo,0,none⟩) m cOo):=by rw[<-HVO.out];exact(H0.out.below hI).row.cell rfl
      have h1:w.cell? ⟨gw,1,none⟩=some (.slice ALo nLo cLo):=by rw[<-HVL.out];exact(H0.out.below hI).row.cell rfl
      exact fx_val hK hρ (.agg #[.slice (some ⟨gOo,0,none⟩) m cOo, .slice ALo nLo cLo]) (by simp[execOp,f7,h0,h1,go_sem]) rfl
    | 9, _, _, ho =>
      have hoo:=Option.some.inj ho;subst hoo;have f3:(ρ (.tmp 24))= .agg #[vW,vE]:=hd ⟨3, .data⟩ (by simp) (by rfl)
      have f8:(ρ (.tmp 29))= .agg #[.slice (some ⟨gOo,0,none⟩) m cOo, .slice ALo nLo cLo]:=hd ⟨8, .data⟩ (by simp) (by rfl)
      exact fx_call hK hρ 65 _ _ #[.agg #[vW,vE], .agg #[.slice (some ⟨gOo,0,none⟩) m cOo, .slice ALo nLo cLo]] rfl (by simp only[List.map_toArray,List.map_cons,List.map_nil,hA.const,f3,f8]) (eg_of Tryz.func65 (by kernel_rfl) rfl) (by
        rw[HVW.out,HVE.out];refine(ctick_own w HCZ.out ((HG.out.below (hI.mono HBS.out)).isG (Nat.le_trans HBS.out hI.size)) (HC.out.below hI)).mono ?_
        rintro e w' ⟨gO,cO,FL,cL,A5,c5,he,hr,ho,hb⟩;rw[HO2.out,HL2.out]at hr;rw[HD2.out]at he ho;have hbs:b<=w.heap.size:=by rw[HBB.out];exact hI.size
        exact⟨_,he,⟨gO,cO,FL,cL,A5,c5,rfl,hr.down hbs,OwnI.down ho hbs⟩,hb⟩)
    | 10, _, _, ho =>
      have hoo:=Option.some.inj ho;subst hoo;have f9: ∃gO cO FL cL A5 c5,(ρ (.tmp 30))= .tuple #[.agg #[.slice (some ⟨gO,0,none⟩) m cO, .slice FL nLo cL], .slice A5 D2.length c5, .int .i64 0]/\RowsC b gO FL m nLo cO cL O2 L2 w/\OwnI w b (.slice A5 D2.length c5) D2:=hd ⟨9, .data⟩ (by simp) (by rfl)
      obtain⟨gO,cO,FL,cL,A5,c5,e9,hr,ho⟩:=f9;exact fx_val hK hρ _ (by simp[execOp,e9,go_sem]) ⟨gO,cO,FL,cL,A5,c5,rfl,hr,ho⟩
    | 11, _, _, ho =>
      have hoo:=Option.some.inj ho;subst hoo;have f10: ∃gO cO FL cL A5 c5,(ρ (.tmp 20))= .tuple #[.agg #[.slice (some ⟨gO,0,none⟩) m cO, .slice FL nLo cL], .slice A5 D2.length c5, .int .i64 0]/\RowsC b gO FL m nLo cO cL O2 L2 w/\OwnI w b (.slice A5 D2.length c5) D2:=hd ⟨10, .data⟩ (by simp) (by rfl)
      obtain⟨gO,cO,FL,cL,A5,c5,e10,hr,ho⟩:=f10;exact fx_val hK hρ (.agg #[.slice (some ⟨gO,0,none⟩) m cO, .slice FL nLo cL]) (by simp[execOp,e10,go_sem]) ⟨gO,cO,FL,cL,rfl,hr⟩
    |12,_,hkS,_=>exact absurd (by decide) hkS
    |13,_,hkS,_=>exact absurd (by decide) hkS
    | 14, _, _, ho =>
      have hoo:=Option.some.inj ho;subst hoo;exact fx_make hK hρ (.pointer (some ⟨w.heap.size,0,none⟩)) (w.alloc (.cells #[.slice none 0 0, .slice none 0 0] 37)) (by simp[execOp,go_sem]) ⟨_,rfl,by rw[HBB.out];exact hI.size,RowV.new w _ _⟩ (below_alloc _)
    |15,hkp,_,_=>exact absurd rfl hkp
    |16,_,hkS,_=>exact absurd (by decide) hkS
    |17,_,hkS,_=>exact absurd (by decide) hkS
    |kq+18,_,_,ho=>simp at ho
  case hside=>
    intro kq o hkS ho ρ w hbw hA hd;simp only[List.mem_cons,List.not_mem_nil,or_false]at hkS;rcases hkS with rfl|rfl|rfl|rfl
    · have hoo:=Option.some.inj ho;subst hoo;obtain⟨w1,f10a,hw1⟩:=hd ⟨10, .data⟩ (by simp) (by rfl) (by decide)
      rw[hw1 (by decide)]at f10a
      have f10: ∃gO cO FL cL A5 c5,(ρ (.tmp 20))= .tuple #[.agg #[.slice (some ⟨gO,0,none⟩) m cO, .slice FL nLo cL], .slice A5 D2.length c5, .int .i64 0]/\RowsC b gO FL m nLo cO cL O2 L2 w/\OwnI w b (.slice A5 D2.length c5) D2:=f10a;obtain⟨gO,cO,FL,cL,A5,c5,e10,hr,ho⟩:=f10;exact⟨.slice A5 D2.length c5,w,by simp[execOp,e10,go_sem],⟨A5,c5,rfl,ho⟩,Below.refl _ _⟩
    · have hoo:=Option.some.inj ho;subst hoo;obtain⟨w1,f10a,hw1⟩:=hd ⟨10, .data⟩ (by simp) (by rfl) (by decide)
      rw[hw1 (by decide)]at f10a
      have f10: ∃gO cO FL cL A5 c5,(ρ (.tmp 20))= .tuple #[.agg #[.slice (some ⟨gO,0,none⟩) m cO, .slice FL nLo cL], .slice A5 D2.length c5, .int .i64 0]/\RowsC b gO FL m nLo cO cL O2 L2 w/\OwnI w b (.slice A5 D2.length c5) D2:=f10a;obtain⟨gO,cO,FL,cL,A5,c5,e10,hr,ho⟩:=f10;exact⟨.int .i64 0,w,by simp[execOp,e10,go_sem],rfl,Below.refl _ _⟩
    · have hoo:=Option.some.inj ho;subst hoo;obtain⟨w1,f12a,hw1⟩:=hd ⟨12, .data⟩ (by simp) (by rfl) (by decide)
      rw[hw1 (by decide)]at f12a
      have f12: ∃A5 c5,(ρ (.tmp 32))= .slice A5 D2.length c5/\OwnI w b (.slice A5 D2.length c5) D2:=f12a;obtain⟨A5,c5,e12,ho⟩:=f12;exact⟨.slice A5 D2.length c5,w,by simp[execOp,e12,go_sem],⟨A5,c5,rfl,ho⟩,Below.refl _ _⟩
    · have hoo:=Option.some.inj ho;subst hoo;obtain⟨w1,f13a,hw1⟩:=hd ⟨13, .data⟩ (by simp) (by rfl) (by decide)
      rw[hw1 (by decide)]at f13a
      have f13:(ρ (.tmp 33))= .int .i64 0:=f13a;exact⟨.int .i64 0,w,by simp[execOp,f13,go_sem],rfl,Below.refl _ _⟩
  case hstore=>
    intro o ho a w hI hA hF K hK;have hoo:=Option.some.inj ho;subst hoo;obtain⟨q,e14,hq,hrq⟩:=hF 14 (by decide) (by decide) (by decide)
    obtain⟨gO,cO,FL,cL,e11,hr⟩:=hF 11 (by decide) (by decide) (by decide)
    replace e14:a.eval (.tmp 5)= .pointer (some ⟨q,0,none⟩):=e14;replace e11:a.eval (.tmp 31)= .agg #[.slice (some ⟨gO,0,none⟩) m cO, .slice FL nLo cL]:=e11;obtain⟨ρ,hρ⟩: ∃ρ,a.eval=ρ:=⟨_,rfl⟩;have e14b:=e14;rw[hρ]at e14 e11;have y0:=hrq.cell (j:=0) rfl;have y1:=hrq.cell (j:=1) rfl;have z0:=hrq.frozen 0;have z1:=hrq.frozen 1;have hlt:=hrq.lt;have hr2:RowV q 37 [.slice (some ⟨gO,0,none⟩) m cO, .slice FL nLo cL] ((w.setCell ⟨q,0,none⟩ (.slice (some ⟨gO,0,none⟩) m cO)).setCell ⟨q,1,none⟩ (.slice FL nLo cL)):=(hrq.set 0 _).set 1 _;have hs1:=hrq.set 0 (.slice (some ⟨gO,0,none⟩) m cO);unfold Oper.wp;rw[show(execOp a.eval _).run Tryz.prog w= .ok .skip ((w.setCell ⟨q,0,none⟩ (.slice (some ⟨gO,0,none⟩) m cO)).setCell ⟨q,1,none⟩ (.slice FL nLo cL))from by rw[hρ];simp[execOp,e14,e11,y0,y1,z0,z1,go_sem],Oper.upon_skip]
    have hbq:w0.heap.size<=q:=by rw[<-HBB.out];exact hq
    refine hK _ ⟨q,gO,cO,FL,cL,e14b,hq,(hI.setCell (p:=⟨q,0,none⟩) hbq _).setCell (p:=⟨q,1,none⟩) hbq _,hr2,(hr.farT hrq (by decide) _).farT hs1 (by decide) _⟩ ((hI.setCell (p:=⟨q,0,none⟩) hbq _).setCell (p:=⟨q,1,none⟩) hbq _).size (fun kq hkq v hv=> ?_)
    simp only[List.mem_cons,List.not_mem_nil,or_false]at hkq;rcases hkq with rfl|rfl|rfl|rfl|rfl
    · obtain⟨gO,cO,FL,cL,A5,c5,e,hr,ho⟩:=hv;exact⟨gO,cO,FL,cL,A5,c5,e,(hr.farT hrq (by decide) _).farT hs1 (by decide) _,own_farT (own_farT ho hrq (by decide) _) hs1 (by decide) _⟩
    · obtain⟨A5,c5,e,ho⟩:=hv;exact⟨A5,c5,e,own_farT (own_farT ho hrq (by decide) _) hs1 (by decide) _⟩
    · exact hv
    · obtain⟨A5,c5,e,ho⟩:=hv;exact⟨A5,c5,e,own_farT (own_farT ho hrq (by decide) _) hs1 (by decide) _⟩
    · exact hv
  case htheta=>
    intro f g w h hT;obtain⟨q,gO,cO,FL,cL,e,h2⟩:=hT;have h14:=h 14 (by decide) (by decide) (by decide)
    exact⟨q,gO,cO,FL,cL,h14▸e,h2⟩
  case hthetab=>
    intro f w w' hT hb;obtain⟨q,gO,cO,FL,cL,e,h1,h2,h3,h4⟩:=hT;exact⟨q,gO,cO,FL,cL,e,h1,h2.trans (hb.mono h2.size),h3.below hb h3.lt,h4.next hb⟩
  case hend=>
    intro vals w2 hT hF;obtain⟨q,gO,cO,FL,cL,e5,hq,hb2,hrq,hrc⟩:=hT;obtain⟨w6,⟨A5,c5,e6,ho5⟩,ew6⟩:=hF 16 (by decide) (by decide)
    rw[ew6 (by decide)]at ho5
    obtain⟨w7,e7,_⟩:=hF 17 (by decide) (by decide)
    replace e5:vals 5= .pointer (some ⟨q,0,none⟩):=e5;replace e6:vals 6= .slice A5 D2.length c5:=e6;replace e7:vals 7= .int .i64 0:=e7;have HB2:=Lib.hid hb2;have HRQ:=Lib.hid hrq;have HRC:=Lib.hid hrc;have HDN:=Lib.hid ho5;have hHq:b<=q:=hq;clear hF hb2 hrq hrc ho5 hq ew6;simp only[fillA,fillL,List.contains_cons,List.contains_nil,Nat.reduceBEq,Bool.or_false,Bool.false_or,Bool.or_true,Bool.true_or,cond_true,cond_false,Nat.zero_add,Nat.reduceAdd];rw[e5,e6,e7];clear e5 e6 e7;obtain⟨ad1,had1⟩: ∃x:GAd,x={ad with gO:=gO,cO:=cO,vL:= .slice FL nLo cL}:=⟨_,rfl⟩;have HA1:Hid (ad1.gD=ad.gD/\ad1.gT=ad.gT/\ad1.gF=ad.gF/\ad1.gO=gO/\ad1.cO=cO/\ad1.vL= .slice FL nLo cL/\ad1.Rv=ad.Rv/\ad1.cD=ad.cD/\ad1.cT=ad.cT/\ad1.cF=ad.cF):=Lib.hid (by rw[had1];exact⟨rfl,rfl,rfl,rfl,rfl,rfl,rfl,rfl,rfl,rfl⟩)
    have hrow2:=H0.out.row.below HB2.out H0.out.row.lt;obtain⟨w3,hw3⟩: ∃x,x=(w2.setCell ⟨gw,0,none⟩ (.slice (some ⟨gO,0,none⟩) m cO)).setCell ⟨gw,1,none⟩ (.slice FL nLo cL):=⟨_,rfl⟩;have hrow2s:=hrow2.set 0 (.slice (some ⟨gO,0,none⟩) m cO);have HWK3:Hid (IsWk w3 base gw m {g with O:=O2} L2 ad1 vW vE):=Lib.hid (by
      have h1:=H0.out.gng.crewPut HB2.out (by rw[<-HBB.out];exact HRC.out)
      rw[<-had1]at h1;refine⟨?_,H0.out.hw,?_⟩
      · have h2:=hrow2s.set 1 (.slice FL nLo cL);rw[hw3,had1];exact h2
      · rw[hw3];exact(h1.far hrow2 (by decide) (by decide) (by decide) 0 _).far hrow2s (by decide) (by decide) (by decide) 1 _)
    have HKP3:Hid (Kp [gw] w0 w3):=Lib.hid (by rw[hw3];exact((Kp.of_below HB2.out _).set _ (by simp)).set _ (by simp))
    have HRQ3:Hid (RowV q 37 [.slice (some ⟨gO,0,none⟩) m cO, .slice FL nLo cL] w3):=Lib.hid (by
      have hne:gw≠q:=by have:=H0.out.row.lt;rw[HBB.out]at hHq;omega
      rw[hw3];exact(HRQ.out.far hne.symm).far hne.symm)
    have HRC3:Hid (RowsC b gO FL m nLo cO cL O2 L2 w3):=Lib.hid (by rw[hw3];exact(HRC.out.farT hrow2 (by decide) _).farT hrow2s (by decide) _)
    have HDN3:Hid (OwnI w3 b (.slice A5 D2.length c5) D2):=Lib.hid (by rw[hw3];exact own_farT (own_farT HDN.out hrow2 (by decide) _) hrow2s (by decide) _)
    have HQ:=Lib.hid hHq;have HRCO:Hid (w0.heap.size<=gO):=Lib.hid (by have:=(HRC.out.rO.blockLt gO rfl).1;rw[HBB.out]at this;exact this)
    have HW3:=Lib.hid hw3;have x0:w2.cell? ⟨gw,0,none⟩=some (.slice (some ⟨gOo,0,none⟩) m cOo):=by rw[<-HVO.out];exact hrow2.cell rfl
    have x1:w2.cell? ⟨gw,1,none⟩=some (.slice ALo nLo cLo):=by rw[<-HVL.out];exact hrow2.cell rfl
    have z0:=hrow2.frozen 0;have z1:=hrow2.frozen 1;have y0:w2.cell? ⟨q,0,none⟩=some (.slice (some ⟨gO,0,none⟩) m cO):=HRQ.out.cell rfl
    have y1:w2.cell? ⟨q,1,none⟩=some (.slice FL nLo cL):=HRQ.out.cell rfl
    have hqn:q≠gw:=by have:=H0.out.row.lt;rw[HBB.out]at hHq;omega
    clear hrow2 hrow2s hw3 had1 HRQ HRC HDN hHq;go_upto_region 6 with fail;rw[<-HW3.out];clear x0 x1 y0 y1 z0 z1 hqn c0 HW3;have hokT:=(HOK.out.tick HMF.out HH0.out).1;have HCZ2:Hid (crewE W E O2 L2=0):=Lib.hid (by
      have h1:=hokT.crew;rw[tickG_O,HO2.out,HL2.out]at h1;exact crewE_zero.mpr ⟨HM.out,h1⟩)
    obtain⟨R0,hR0⟩: ∃x,x=nums (rdyK W.length E g.O L []):=⟨_,rfl⟩;have HR0:=Lib.hid hR0;have HRV:Hid (readyV W E O2 L2=R0):=Lib.hid (by
      unfold readyV;rw[if_pos HCZ2.out,hR0,rdy_zero,HO2.out,HL2.out];rfl)
    obtain⟨b3,hb3⟩: ∃x,x=w3.heap.size:=⟨_,rfl⟩;have HB3:=Lib.hid hb3;clear hokT hR0 hb3;refine wp_region_tail 7 [42,43,44,45,46,47,8,1000] [] (by kernel_rfl) (by kernel_rfl) (by intro d hd;simp at hd⊢;omega) (fun z=>Below w3.heap.size w3 z) (PhiK6 b3 gw gO m cO nLo cL FL R0 vW vE) (fun _ _=>True) (ThtK6 w3 b3 R0)
      (fun z z' h hb=>h.trans (hb.mono h.size)) phiK6_below ((Below.refl _ _).drew) ?hstep ?hloose ?hmid ?htail ?hcon ?hend
    case hstep=>
      intro kq o hkm hkF ho a1 w hI hA hd K hK;obtain⟨ρ,hρ⟩: ∃ρ,a1.eval=ρ:=⟨_,rfl⟩;rw[hρ]at hA hd
      match kq,hkm,hkF,ho with
      | 0, _, _, ho =>
        have hoo:=Option.some.inj ho;subst hoo;exact fx_val hK hρ (.pointer (some ⟨gw,0,none⟩)) (by have h:=hA.tmp 0 (by decide);simp[execOp,h,go_sem]) rfl
      | 1, _, _, ho =>
        have hoo:=Option.some.inj ho;subst hoo;have f0:ρ (.tmp 42)= .pointer (some ⟨gw,0,none⟩):=hd ⟨0, .data⟩ (by simp) (by rfl) (by decide)
        exact fx_val hK hρ (.pointer (some ⟨gw,0,none⟩)) (by simp[execOp,f0,go_sem]) rfl
      | 2, _, _, ho =>
        have hoo:=Option.some.inj ho;subst hoo;have f1:ρ (.tmp 43)= .pointer (some ⟨gw,0,none⟩):=hd ⟨1, .data⟩ (by simp) (by rfl) (by decide)
        exact fx_val hK hρ (.pointer (some ⟨gw,5,none⟩)) (by simp[execOp,f1,go_sem]) rfl
      | 3, _, _, ho =>
        have hoo:=Option.some.inj ho;subst hoo;have f2:ρ (.tmp 44)= .pointer (some ⟨gw,5,none⟩):=hd ⟨2, .data⟩ (by simp) (by rfl) (by decide)
        have h0:w.cell? ⟨gw,5,none⟩=some vW:=(HWK3.out.below hI).row.cell rfl
        have h1:w.cell? ⟨gw,6,none⟩=some vE:=(HWK3.out.below hI).row.cell rfl
        rw[HVW.out]at h0;rw[HVE.out]at h1;exact fx_val hK hρ (.agg #[vW,vE]) (by rw[HVW.out,HVE.out];simp[execOp,f2,h0,h1,go_sem]) rfl
      | 4, _, _, ho =>
        have hoo:=Option.some.inj ho;subst hoo;have h0:w.cell? ⟨q,0,none⟩=some (.slice (some ⟨gO,0,none⟩) m cO):=(HRQ3.out.below hI HRQ3.out.lt).cell rfl
        have h1:w.cell? ⟨q,1,none⟩=some (.slice FL nLo cL):=(HRQ3.out.below hI HRQ3.out.lt).cell rfl
        have hs:=hA.tmp 5 (by decide)
        exact fx_val hK hρ (.agg #[.slice (some ⟨gO,0,none⟩) m cO, .slice FL nLo cL]) (by simp[execOp,hs,h0,h1,go_sem]) rfl
      | 5, _, _, ho =>
        have hoo:=Option.some.inj ho;subst hoo;have f3:ρ (.tmp 45)= .agg #[vW,vE]:=hd ⟨3, .data⟩ (by simp) (by rfl) (by decide)
        have f4:ρ (.tmp 46)= .agg #[.slice (some ⟨gO,0,none⟩) m cO, .slice FL nLo cL]:=hd ⟨4, .data⟩ (by simp) (by rfl) (by decide)
        exact fx_call hK hρ 59 _ _ #[.agg #[vW,vE], .agg #[.slice (some ⟨gO,0,none⟩) m cO, .slice FL nLo cL]] rfl (by simp only[List.map_toArray,List.map_cons,List.map_nil,hA.const,f3,f4]) (eg_of Tryz.func59 (by kernel_rfl) rfl) (by
          rw[HVW.out,HVE.out];have hbw:Below base w0 w:=(HKP3.out.below (by simpa using H0.out.hw) HBS.out).trans (hI.mono (Nat.le_trans HBS.out HKP3.out.size))
          refine(cready_own w HCZ2.out ((HG.out.below hbw).isG (Nat.le_trans HBS.out hbw.size)) ((HRC3.out.next hI).isC (by omega) (by have:=HNL.out;omega))).mono ?_
          rintro e w' ⟨A6,c6,he,ho,hb⟩;rw[HRV.out]at he ho;exact⟨_,he,⟨A6,c6,rfl,OwnI.down ho (by rw[HB3.out];exact hI.size)⟩,hb⟩)
      | 6, _, _, ho =>
        have hoo:=Option.some.inj ho;subst hoo;exact fx_make hK hρ (.pointer (some ⟨w.heap.size,0,none⟩)) (w.alloc (.cells #[.slice none 0 0] 22)) (by simp[execOp,go_sem]) ⟨_,rfl,by rw[HB3.out];exact hI.size,RowV.new w _ _⟩ (below_alloc _)
      |kq+7,h,_,_=>exact absurd h (by omega)
    case hloose=>
      intro kq o hkF ho ρ w hA hd;exact absurd hkF (by simp)
    case hmid=>
      intro vals w hI hF;exact⟨Nat.le_refl _,by decide,fun _=>⟨hF 5 (by decide) (by decide),hF 6 (by decide) (by decide),hI⟩,fun h=>absurd h (by decide)⟩
    case htail=>
      intro t o htm ho a1 w hA hT hL K hK;have htl:t<8:=(Array.getElem?_eq_some_iff.1 ho).1
      obtain⟨ρ,hρ⟩: ∃ρ,a1.eval=ρ:=⟨_,rfl⟩;rw[hρ]at hA
      try rw[hρ]at hL
      obtain rfl:t=7:=by omega
      have hoo:=Option.some.inj ho;subst hoo;obtain⟨t1,t2,h7,h8⟩:=hT;obtain⟨⟨A6,c6,e47,ho⟩,⟨q8,e8,hq8,hr8⟩,hbl⟩:=h7 (by first|rfl|trivial|decide)
      simp only[hρ]at e47 e8;have y0:=hr8.cell (j:=0) rfl;have z0:=hr8.frozen 0;unfold Oper.wp;rw[show(execOp a1.eval _).run Tryz.prog w= .ok .skip (w.setCell ⟨q8,0,none⟩ (.slice A6 R0.length c6))from by rw[hρ];simp[execOp,e8,y0,z0,e47,go_sem],Oper.upon_skip]
      refine hK undef _ ⟨by decide,by decide,fun h=>absurd h (by decide),fun _=>⟨q8,A6,c6,?_,hq8,hr8.set 0 _,own_farT ho hr8 (by decide) _,hbl.setCell (p:=⟨q8,0,none⟩) (by rw[<-HB3.out];exact hq8) _⟩⟩
      simp only[reduceCtorEq,if_false,hρ];exact e8
    case hcon=>
      intro t f g w h hT;obtain⟨t1,t2,h7,h8⟩:=hT;have q47:=fun(_:5<t)=>h 5 (by omega) (by simp)
      have q8:=h 6 (by omega) (by simp)
      have q47:=h 5 (by omega) (by simp)
      simp only[List.getD_cons_zero,List.getD_cons_succ]at q47 q8;exact⟨t1,t2,fun e=>by rw[<-q47,<-q8];exact h7 e,fun e=>by rw[<-q8];exact h8 e⟩
    case hend=>
      intro vals4 w4 hT;obtain⟨_,_,_,h8⟩:=hT;obtain⟨g8,A6,c6,e8,hq8,hr8,ho8,hb8⟩:=h8 rfl;have HR8:=Lib.hid hr8;have HO8:=Lib.hid ho8;have HBL8:=Lib.hid hb8;have HQ8:=Lib.hid hq8;clear h8 hr8 ho8 hb8 hq8;simp only[fillA,fillL,List.contains_cons,List.contains_nil,Nat.reduceBEq,Bool.or_false,Bool.false_or,Bool.or_true,Bool.true_or,cond_true,cond_false,Nat.zero_add,Nat.reduceAdd];rw[e8];clear e8;have HS0:Hid (TkSt w0 base gw m W.length E L g ad ad1 vW vE g8 A5 c5 0 ad.Rv A6 c6 w4):=Lib.hid (by
        have hbs3:w0.heap.size<=w3.heap.size:=HKP3.out.size;have e0:{ad1 with Rv:=ad.Rv}=ad1:=by rw[<-HA1.out.2.2.2.2.2.2.1]
        have ez:tickK W.length E L g 0=({g with O:=O2}, []):=by show({g with O:=onT g.O L}, [])=_;rw[HO2.out]
        have lo8: ∀x,(Value.slice A6 0 0).ownBlock=some x->w3.heap.size<=x:=fun x hx=>by
          rw[obS A6 0 0 R0.length c6]at hx;have:=(HO8.out.blockLt x hx).1;rw[HB3.out]at this;exact this
        have w3lt:=HWK3.out.gng.lts;refine⟨(HKP3.out.more (by simp)).trans (Kp.of_below HBL8.out _),?_,?_,?_,?_,?_,?_,?_,?_,?_,?_⟩
        · rw[ez,e0,HL2.out];exact HWK3.out.below HBL8.out
        · rw[ez,<-HR0.out];exact HR8.out
        · have:=HQ8.out;rw[HB3.out]at this;omega
        · rw[ez,<-HR0.out];exact HO8.out.down (by rw[HB3.out];exact hbs3)
        · rw[HD2.out];exact(HDN3.out.below HBL8.out).down (by rw[HBB.out];exact Nat.le_refl _)
        · intro x hx hx2;rw[obS A5 0 0 D2.length c5]at hx2;have h1:=lo8 x hx;have h2:=(HDN3.out.blockLt x hx2).2;omega
        · intro hx;have h1:=lo8 _ hx;omega
        · intro x hx hx2;have h1:=lo8 _ hx;have h2:=(HWK3.out.gng.left.blockLt x hx2).2;omega
        · intro hx;have h1:=lo8 _ hx;omega
        · intro j hj x hx hx2;have h1:=lo8 _ hx;rw[<-HA1.out.2.2.2.2.2.2.1]at hx2;have h2:=((HWK3.out.gng.ring j hj).blockLt x hx2).2;omega)
      clear HR8 HO8 HBL8 HQ8 HWK3 HRQ3 HRC3 HDN3 HKP3 HB2;go_wp2;go_loopw [50] (fun iv wr=> ∃(k:Nat) (Rv:Nat->Value),k<=m/\iv= .int .i64 k/\Hid (∃A6 c6,TkSt w0 base gw m W.length E L g ad ad1 vW vE g8 A5 c5 k Rv A6 c6 wr)) (fun iv _=>m - (intOf iv).toNat)
      case atStart=>exact⟨0,_,Nat.zero_le _,rfl,Lib.hid ⟨_,_,HS0.out⟩⟩
      case round=>
        clear HS0;obtain⟨k,Rv,hk,rfl,HSX⟩:=hrel
        by_cases hlt:k<m
        · obtain⟨A6,c6,hS⟩:=HSX.out;have HS:=Lib.hid hS;clear HSX;obtain⟨x,hx⟩: ∃x,x=g.O.getD k 0:=⟨_,rfl⟩;have hon:OwnI wr base (.slice (some ⟨gOo,0,none⟩) m cOo) g.O:=by
            rw[<-HVO.out];refine hS.kp.own H0.out.gng.on (fun b hb q=> ?_)
            simp only[List.mem_cons,List.not_mem_nil,or_false]at q;rcases q with rfl|rfl
            · exact rowN_types H0.out.gng.on (show _ from H0.out.row) (by decide) hb
            · obtain⟨cur,h2,_⟩:=rowN_block H0.out.gng.dqs;exact rowN_types H0.out.gng.on h2 (by decide) hb
          have c9:=own_onc hon H0.out.gng.ol hlt;rw[<-hx]at c9;have p5:wr.cell? ⟨gw,5,none⟩=some (.slice WA Wn Wc):=by rw[<-HVW.out];exact hS.wk.row.cell rfl
          have p6:wr.cell? ⟨gw,6,none⟩=some (.slice EF Em Ed):=by rw[<-HVE.out];exact hS.wk.row.cell rfl
          have hdl:D2.length<=1000:=by have h1:=done_len (O:=g.O) (L:=L);rw[HD2.out]at h1;omega
          have hdn:OwnI wr w0.heap.size (.slice A5 D2.length c5) D2:=by have h1:=hS.dn;rw[HD2.out]at h1;exact h1
          have CC:=Lib.hid (contains_any A5 c5 D2.length D2 x wr.heap.size wr rfl hdl hdn.ints);have hiff:=done_iff HOK.out.crew (k:=k) (by rw[HOK.out.ol];exact hlt)
          rw[HD2.out,<-hx]at hiff;have hn: ¬((m:Int)<=(k:Int)):=by omega
          have HX:=Lib.hid hx
          by_cases hd:x≠ -1/\leftC L x=1
          · rw[decide_eq_true (hiff.mpr hd)]at CC;have hdk:g.O.getD k 0≠ -1/\leftC L (g.O.getD k 0)=1:=by rw[<-hx];exact hd
            have hxr:0<=x/\x<(Wn:Int):=by
              have hm:x∈g.O:=by
                rw[hx,List.getD_eq_getElem?_getD,List.getElem?_eq_getElem (by rw[HOK.out.ol];exact hlt)]
                exact List.getElem_mem _
              have h3:=((HOK.out.crew.on x hm).resolve_left hd.1).1;have:=HG.out.hn;omega
            have hbr:Below base w0 wr:=hS.kp.below (by have h1:=H0.out.hw;have h2:=H0.out.gng.lts;simp;omega) HBS.out
            obtain⟨SL,hSL⟩: ∃l,l=succsV W E x:=⟨_,rfl⟩;have CS:=Lib.hid (succs_own wr x HM.out hxr ((HG.out.below hbr).isG (Nat.le_trans HBS.out hbr.size)));rw[<-hSL]at CS;have hsv:SL=succsL W.length E (g.O.getD k 0):=by rw[hSL,<-hx];unfold succsV;rw[if_pos HM.out]
            obtain⟨R,hR⟩: ∃l,l=nums (rdyK W.length E g.O L (tickK W.length E L g k).2):=⟨_,rfl⟩;obtain⟨MN,hMN⟩: ∃l,l=nums (mineG W.length E g.O L (tickK W.length E L g k).2 k):=⟨_,rfl⟩;have hRl:R.length<=64:=by rw[hR];exact rdy_len HOK.out.n64
            have hMl:MN.length<=64:=by rw[hMN];exact mine_len HOK.out.n64
            have hSl:SL.length<=64:=by rw[hsv];exact succs_len HOK.out.n64 _
            have hfil:SL.filter (fun z=> !(!decide (z∈R)))=MN:=by rw[hsv,hR,hMN];exact mine_yes hdk
            have hb8:=hS.b8;have hrd:=hS.rdy;rw[<-hR]at hb8 hrd;have CDEL:Hid (∀(w1:World) (As:Option Addr) (cs:Nat),Below wr.heap.size wr w1->OwnI w1 wr.heap.size (.slice As SL.length cs) SL->Calls Tryz.prog 68 #[.slice As SL.length cs, .func (.func 67) #[] #[.pointer (some ⟨g8,0,none⟩)]] w1 fun e w'=>
                e= .returned (.slice As MN.length cs)/\OwnI w' wr.heap.size (.slice As MN.length cs) MN/\Below wr.heap.size wr w'):=Lib.hid fun w1 As cs hb1 hos=>by
              have h8:=hb8.below hb1 hb8.lt;have hr1:=hrd.below hb1;refine(del_own hos rfl (by omega) 67 (eg_of Tryz.func67 (by kernel_rfl) rfl) (fun z=> !decide (z∈R)) (h8.cell rfl) h8.lt (fun q=> ?_) hr1.ints (fun b off e q=> ?_) (fun W x hc hy=>isOther_any hc hy (by omega) x)).mono ?_
              · have h1:=(hos.blockLt g8 q).1;have:=hb8.lt;omega
              · have h1:=(hos.blockLt b q).1;have h2:=(hrd.blockLt b (by rw[e];rfl)).2
                omega
              · rintro e w' ⟨rfl,ho,hk⟩;rw[hfil]at ho;refine⟨by rw[hfil],ho,?_⟩
                cases hob:(Value.slice As SL.length cs).ownBlock with
                |none=>exact hb1.trans ((hk [] (fun b hb=>by rw[hob]at hb;cases hb)).below (by simp) hb1.size)
                |some b=>exact hb1.trans ((hk [b] (fun b' hb=>by rw[hob]at hb;injection hb with hb;simp[hb])).below (by simpa using(hos.blockLt b hob).1) hb1.size)
            have HMN:=Lib.hid hMN;have HR:=Lib.hid hR;have HRL:=Lib.hid hRl;have HML:=Lib.hid hMl;have HBR:=Lib.hid hbr;have HDK:=Lib.hid hdk;have hg8lt:=hb8.lt;clear hd hiff hxr hbr hSL hsv hR hMN hRl hMl hfil hrd hdk hx hon hdn hS;go_upto_region 13 with(first
              |(go_at_call 66;refine CC.out.mono ?_;rintro e w' ⟨rfl,hww⟩;replace hww:=hww.symm;subst hww;clear CC)
              |(go_at_call 69;refine CS.out.mono ?_;rintro e w1 ⟨As,cs,rfl,hos,hb1⟩;(have HOS:=Lib.hid hos);(have HB1:=Lib.hid hb1);clear hos hb1 CS)
              |(go_at_call 68;refine(CDEL.out _ _ _ HB1.out HOS.out).mono ?_;rintro e w2b ⟨rfl,hom,hb2⟩;(have HOM:=Lib.hid hom);(have HB2b:=Lib.hid hb2);clear hom hb2))
            obtain⟨wa,hwa⟩: ∃x,x=w2b.alloc (.cells #[.slice As MN.length cs] 22):=⟨_,rfl⟩;obtain⟨g12,hg12⟩: ∃x,x=w2b.heap.size:=⟨_,rfl⟩;have hba:Below w2b.heap.size w2b wa:=by rw[hwa];exact below_alloc _
            have HBA:Hid (Below wr.heap.size wr wa):=Lib.hid (HB2b.out.trans (hba.mono HB2b.out.size));have HSA:=Lib.hid (HS.out.next HBA.out);have HG12:Hid (RowV g12 22 [.slice As MN.length cs] wa):=Lib.hid (by rw[hwa,hg12];exact RowV.new w2b _ _)
            have HMA:Hid (OwnI wa wr.heap.size (.slice As MN.length cs) MN):=Lib.hid (HOM.out.below hba);have HGL:Hid (wr.heap.size<=g12):=Lib.hid (by rw[hg12];exact HB2b.out.size)
            have HLT:=Lib.hid hlt;rw[<-hwa,<-hg12];clear hwa hg12 hba CDEL HOS HB1 HOM HB2b p5 p6 c9 hb8;refine wp_region_tail 5 [68,69,70,71,72,73,13] [] (by kernel_rfl) (by kernel_rfl) (by intro d hd;simp at hd⊢;omega) (fun z=>Below wa.heap.size wa z) (PhiK13 gw ad1.gD k MN.length cs As) (fun _ _=>True) (ThtK13 wa base gw m k (pushesG (tickK W.length E L g k).1 k (mineG W.length E g.O L (tickK W.length E L g k).2 k)) L2 ad1 vW vE MN.length cs ad1.gD As A6)
              (fun z z' h hb=>h.trans (hb.mono h.size)) phiK13_below ((Below.refl _ _).drew) ?hstep ?hloose ?hmid ?htail ?hcon ?hend
            case hstep=>
              intro kq o hkm hkF ho a1 w hI hA hd K hK;obtain⟨ρ,hρ⟩: ∃ρ,a1.eval=ρ:=⟨_,rfl⟩;rw[hρ]at hA hd
              match kq,hkm,hkF,ho with
              | 0, _, _, ho =>
                have hoo:=Option.some.inj ho;subst hoo;have h0:w.cell? ⟨g12,0,none⟩=some (.slice As MN.length cs):=(HG12.out.below hI HG12.out.lt).cell rfl
                have hs:=hA.tmp 12 (by decide)
                exact fx_val hK hρ (.slice As MN.length cs) (by simp[execOp,hs,h0,go_sem]) rfl
              | 1, _, _, ho =>
                have hoo:=Option.some.inj ho;subst hoo;exact fx_val hK hρ (.pointer (some ⟨gw,0,none⟩)) (by have h:=hA.tmp 0 (by decide);simp[execOp,h,go_sem]) rfl
              | 2, _, _, ho =>
                have hoo:=Option.some.inj ho;subst hoo;exact fx_val hK hρ (.int .i64 k) (by have h:=hA.tmp 9 (by decide);simp[execOp,h,go_sem]) rfl
              | 3, _, _, ho =>
                have hoo:=Option.some.inj ho;subst hoo;have f1:ρ (.tmp 69)= .pointer (some ⟨gw,0,none⟩):=hd ⟨1, .data⟩ (by simp) (by rfl) (by decide)
                have f2:ρ (.tmp 70)= .int .i64 k:=hd ⟨2, .data⟩ (by simp) (by rfl) (by decide)
                exact fx_call hK hρ 70 _ _ #[.pointer (some ⟨gw,0,none⟩), .int .i64 k] rfl (by simp only[List.map_toArray,List.map_cons,List.map_nil,hA.const,f1,f2]) (eg_of Tryz.func70 (by kernel_rfl) rfl) ((storeOf_any HLT.out ((HSA.out.next hI).wk)).mono fun e w' ⟨he,hb⟩=>⟨_,he,rfl,hb⟩)
              | 4, _, _, ho =>
                have hoo:=Option.some.inj ho;subst hoo;have f3:ρ (.tmp 71)= .agg #[.pointer (some ⟨ad1.gD,3 * k,none⟩)]:=hd ⟨3, .data⟩ (by simp) (by rfl) (by decide)
                exact fx_val hK hρ (.func (.func 71) #[.agg #[.pointer (some ⟨ad1.gD,3 * k,none⟩)]] #[]) (by simp[execOp,f3,go_sem,Instr.makeFunc]) rfl
              |kq+5,h,_,_=>exact absurd h (by omega)
            case hloose=>
              intro kq o hkF ho ρ w hA hd;exact absurd hkF (by simp)
            case hmid=>
              intro vals w hI hF;exact⟨Nat.le_refl _,by decide,fun _=>⟨hF 0 (by decide) (by decide),hF 4 (by decide) (by decide),hI⟩,fun h=>absurd h (by decide),fun h=>absurd h (by decide),fun h=>absurd h (by decide)⟩
            case htail=>
              intro t o htm ho a1 w hA hT hL K hK;have htl:t<7:=(Array.getElem?_eq_some_iff.1 ho).1
              obtain⟨ρ,hρ⟩: ∃ρ,a1.eval=ρ:=⟨_,rfl⟩;rw[hρ]at hA
              try rw[hρ]at hL
              obtain rfl|rfl:t=5\/t=6:=by omega
              · have hoo:=Option.some.inj ho;subst hoo;obtain⟨t1,t2,h5,_,_,_⟩:=hT;obtain⟨e68,e72,hbl⟩:=h5 (by first|rfl|trivial|decide)
                replace e68:a1.eval (.tmp 68)= .slice As MN.length cs:=e68;replace e72:a1.eval (.tmp 72)= .func (.func 71) #[.agg #[.pointer (some ⟨ad1.gD,3 * k,none⟩)]] #[]:=e72;refine fx_free 58 _ _ #[.slice As MN.length cs, .func (.func 71) #[.agg #[.pointer (some ⟨ad1.gD,3 * k,none⟩)]] #[]] rfl (by simp only[List.map_toArray,List.map_cons,List.map_nil];rw[e68,e72]) (eg_of Tryz.func58 (by kernel_rfl) rfl) ?_
                obtain⟨lN,hlN⟩: ∃l,l=mineG W.length E g.O L (tickK W.length E L g k).2 k:=⟨_,rfl⟩;have hMN:MN=nums lN:=by rw[HMN.out,hlN]
                refine(each_any As cs MN.length w.heap.size MN 71 (.agg #[.pointer (some ⟨ad1.gD,3 * k,none⟩)]) (eg_of Tryz.func71 (by kernel_rfl) rfl)
                  (fun i z=> ∃Rv',IsWk z base gw m (pushesG (tickK W.length E L g k).1 k (lN.take i)) L2 {ad1 with Rv:=Rv'} vW vE/\Kp [ad1.gD] w z/\ ∀j,j<m-> ∀q,(Value.slice A6 0 0).ownBlock=some q->(Rv' j).ownBlock≠some q) rfl (by have:=HML.out;omega) ?_ ?_ w ⟨Rv,?_,Kp.of_below (Below.refl _ _) _,HSA.out.aR⟩).mono ?_
                · rintro i z ⟨Rv',_,hkp,_⟩;refine own_ints_kp (HMA.out.below hbl) hkp (fun q hq hm=> ?_)
                  rw[List.mem_singleton]at hm;have h1:=(HMA.out.blockLt q hq).1;have h2:=HS.out.wk.gng.lts.2.1.2;replace h2:ad1.gD<wr.heap.size:=h2;omega
                · rintro i z1 z hz ⟨Rv',hwk,hkp,hap⟩;rw[hMN]at hz;unfold nums at hz;rw[List.getElem?_map]at hz
                  obtain⟨y,hy,rfl⟩: ∃y,lN[i]? =some y/\(y:Int)=z1:=by
                    cases hc:lN[i]? with
                    |none=>rw[hc]at hz;cases hz
                    |some y=>rw[hc]at hz;exact⟨y,rfl,Option.some.inj hz⟩
                  have hr12:=tick_room HOK.out HMF.out HH0.out HLT.out (i:=i) (x:=y) (by rw[<-hlN];exact hy)
                  rw[<-hlN]at hr12;have hbz:Below base wr z:=by
                    have q1:=HSA.out.wk.gng.lts.2.1;replace q1:base<=ad1.gD/\ad1.gD<wa.heap.size:=q1;have q2:=HBR.out.size;have q3:=HBS.out;exact(HBA.out.mono (by omega)).trans ((hbl.mono (by have:=HBA.out.size;omega)).trans (hkp.below (by simpa using q1.1) (by have:=HBA.out.size;have:=hbl.size;omega)))
                  refine(push_new (y:Int) z HLT.out hm8 ((HG.out.below (HBR.out.trans hbz)).tab) hwk hr12.1 hr12.2).mono ?_
                  rintro e z' ⟨rfl,v,hwk',hkp',hnew⟩;refine⟨rfl,updG Rv' k v,by rw[pushesG_take _ k lN hy];exact hwk',hkp.trans hkp',fun j hj q hq hq2=> ?_⟩
                  by_cases ej:j=k
                  · rw[ej,updG_at]at hq2;have h1:=hnew q hq2;rw[obS A6 0 0 (nums (rdyK W.length E g.O L (tickK W.length E L g k).2)).length c6]at hq;have h2:=(HS.out.rdy.blockLt q hq).2;have h3:=HBA.out.size;have h4:=hbl.size;have h5:=hkp.size;omega
                  · rw[updG_ne _ _ ej]at hq2;exact hap j hj q hq hq2
                · show IsWk w base gw m (tickK W.length E L g k).1 L2 {ad1 with Rv:=Rv} vW vE
                  have h1:=(HSA.out.next hbl).wk;rw[HL2.out]at h1;exact h1
                · rintro e z ⟨rfl,Rv',hwk,hkp,hap⟩;refine⟨_,rfl,hK _ _ ⟨by decide,by decide,fun h=>absurd h (by decide),fun _=>⟨Rv',?_,(Kp.of_below hbl _).trans hkp,hap⟩,fun _=> ?_,fun h=>absurd h (by decide)⟩⟩
                  · have hln:MN.length=lN.length:=by rw[hMN];unfold nums;rw[List.length_map]
                    rw[hln,List.take_length,hlN]at hwk;exact hwk
                  · simp
              · have hoo:=Option.some.inj ho;subst hoo;obtain⟨t1,t2,_,h6,h7,_⟩:=hT;have e73:=h7 (by first|rfl|trivial|decide)
                simp only[hρ]at e73;unfold Oper.wp;rw[show(execOp a1.eval _).run Tryz.prog w= .ok (.value (.int .i64 0)) (w)from by rw[hρ];simp[execOp,e73,go_sem],Oper.upon_value]
                refine hK _ _ ⟨by decide,by decide,fun h=>absurd h (by decide),fun _=>h6 (by decide),fun h=>absurd h (by decide),fun _=> ?_⟩
                simp
            case hcon=>
              intro t f g w h hT;obtain⟨t1,t2,h5,h6,h7,h8⟩:=hT;refine⟨t1,t2,fun e=> ?_,h6,fun e=> ?_,fun e=> ?_⟩
              · have q68:=h 0 (by omega) (by simp)
                have q72:=h 4 (by omega) (by simp)
                simp only[List.getD_cons_zero,List.getD_cons_succ]at q68 q72;rw[<-q68,<-q72];exact h5 e
              · have q73:=h 5 (by omega) (by simp)
                simp only[List.getD_cons_zero,List.getD_cons_succ]at q73;rw[<-q73];exact h7 e
              · have q13:=h 6 (by omega) (by simp)
                simp only[List.getD_cons_zero,List.getD_cons_succ]at q13;rw[<-q13];exact h8 e
            case hend=>
              intro vals9 w9 hT;obtain⟨_,_,_,h6,_,h8⟩:=hT;have e13:=h8 rfl;obtain⟨Rv',hwk,hkp,hap⟩:=h6 (by decide)
              have HWK9:=Lib.hid hwk;have HKP9:=Lib.hid hkp;have HAP9:=Lib.hid hap;have g8D:g8≠ad1.gD:=fun e=>by
                have h1:=HSA.out.b8;obtain⟨cur,h2,_⟩:=rowN_block HSA.out.wk.gng.dqs;unfold RowV at h1;rw[e]at h1;replace h2:wa.heap[ad1.gD]? =_:=h2
                rw[h2]at h1;injection h1 with h1;injection h1 with _ h1 _;exact absurd h1 (by decide)
              have hgDlt:ad1.gD<wr.heap.size:=HS.out.wk.gng.lts.2.1.2;have hb89:=hkp.row HSA.out.b8 (by simpa using g8D)
              rw[<-HR.out]at hb89;have h129:RowV g12 22 [.slice As MN.length cs] w9:=hkp.row HG12.out (by have:=HGL.out;simp;omega)
              have hrd9:OwnI w9 w0.heap.size (.slice A6 R.length c6) R:=by
                have h1:=HSA.out.rdy;rw[<-HR.out]at h1;refine hkp.own h1 (fun b hb q=> ?_)
                rw[List.mem_singleton]at q;obtain⟨cur,h2,_⟩:=rowN_block HSA.out.wk.gng.dqs;exact rowN_types h1 h2 (by decide) (q▸hb)
              have hmi9:Ints w9 w9.heap.size As MN:=(own_ints_kp HMA.out hkp (fun q hq hm=>by
                rw[List.mem_singleton]at hm;have h1:=(HMA.out.blockLt q hq).1;omega)).more hkp.size
              have CD2:=Lib.hid (del_own hrd9 rfl (by have:=HRL.out;omega) 72 (eg_of Tryz.func72 (by kernel_rfl) rfl) (fun z=>decide (z∈MN)) (h129.cell rfl) h129.lt
                (fun q=>rowN_types hrd9 (show _ from h129) (by decide) q) hmi9
                (fun b off e q=>by
                  have h1:=(HMA.out.blockLt b (by rw[e];rfl)).1
                  have h2:=HS.out.rdy;rw[<-HR.out]at h2;have h3:=(h2.blockLt b q).2;omega)
                (fun W x hc hy=>isMine_any hc hy (by have:=HML.out;omega) x))
              have CD3:=Lib.hid (CD2.out.mono (R':=fun e wb=>e= .returned (.slice A6 (R.filter (fun z=> !decide (z∈MN))).length c6)/\OwnI wb w0.heap.size (.slice A6 (R.filter (fun z=> !decide (z∈MN))).length c6) (R.filter (fun z=> !decide (z∈MN)))/\(∀bs:List Nat,(∀b,(Value.slice A6 R.length c6).ownBlock=some b->b∈bs)->Kp bs w9 wb)/\RowV g8 22 [.slice A6 R.length c6] wb) fun e wb ⟨he,ho,hk⟩=>⟨he,ho,hk,by
                cases hq:(Value.slice A6 R.length c6).ownBlock with
                |none=>exact(hk [] (fun b hb=>by rw[hq]at hb;cases hb)).row hb89 (by simp)
                |some q=>exact(hk [q] (fun b hb=>by rw[hq]at hb;injection hb with hb;simp[hb])).row hb89 (by
                    simp only[List.mem_singleton];exact fun e=>rowN_types hrd9 (show _ from hb89) (by decide) (e▸hq))⟩)
              clear CD2;have hrn:R.filter (fun z=> !decide (z∈MN))=nums (rdyK W.length E g.O L (tickK W.length E L g (k+1)).2):=by
                rw[HR.out,HMN.out];exact rdy_next
              obtain⟨R9,hR9⟩: ∃l,l=R.filter (fun z=> !decide (z∈MN)):=⟨_,rfl⟩
              rw[<-hR9]at CD3 hrn;have HRN:=Lib.hid hrn;have x8:w9.cell? ⟨g8,0,none⟩=some (.slice A6 R.length c6):=hb89.cell rfl
              have H89:=Lib.hid hb89;have HRD9:=Lib.hid hrd9;clear h6 h8 hwk hkp hap g8D hgDlt h129 hrd9 hmi9 hrn hR9 hb89;simp only[fillA,fillL,List.contains_cons,List.contains_nil,Nat.reduceBEq,Bool.or_false,Bool.false_or,Bool.or_true,Bool.true_or,cond_true,cond_false,Nat.zero_add,Nat.reduceAdd];rw[e13];clear e13
              go_wp2_with(go_at_call 68;refine CD3.out.mono ?_;rintro e wb ⟨rfl,hob,hkb,hb8b⟩;(have HOB:=Lib.hid hob);(have HKB:=Lib.hid hkb);(have y8:wb.cell? ⟨g8,0,none⟩=some (.slice A6 R.length c6):=hb8b.cell rfl);(have z8:=hb8b.frozen 0);clear hob hkb hb8b CD3 x8)
              go_roundw
              case rel=>
                refine⟨k+1,Rv',by have:=HLT.out;omega,by go_num,Lib.hid ⟨A6,c6,?_⟩⟩
                have h1:=HOB.out;rw[HRN.out]at h1;have h2:=HSA.out.done HA1.out.1 (by rw[HL2.out];exact HWK9.out) HKP9.out HAP9.out h1 (fun bs hbs=>HKB.out bs (fun b hb=>hbs b (by rw[obS A6 0 0 R.length c6];exact hb)))
                rw[<-HRN.out]at h2;exact h2
              case measure=>simp[intOf];have:=HLT.out;omega
          · have hno: ¬(g.O.getD k 0≠ -1/\leftC L (g.O.getD k 0)=1):=by rw[<-hx];exact hd
            rw[decide_eq_false (fun q=>hd (hiff.mp q))]at CC
            have HNX:=Lib.hid (hS.skip hno);clear hd hiff hno hx hon hdn hS
            go_wp2_with(go_at_call 66;refine CC.out.mono ?_;rintro e w' ⟨rfl,hww⟩;replace hww:=hww.symm;subst hww;clear CC)
            go_roundw
            case rel=>exact⟨k+1,Rv,by omega,by go_num,Lib.hid ⟨A6,c6,HNX.out⟩⟩
            case measure=>simp[intOf];omega
        · obtain rfl:m=k:=by omega
          obtain⟨A6,c6,hS⟩:=HSX.out;have HS:=Lib.hid hS;clear hS HSX;go_wp2;refine bodyPost_ret (v:= .tuple #[.slice A5 D2.length c5, .int .i64 0]) (by simp[results,Tryz.results35,go_sem]) rfl ?_
          refine⟨A5,c5,{ad1 with Rv:=Rv},rfl,?_,?_,⟨HA1.out.1,HA1.out.2.1,HA1.out.2.2.1,?_⟩,HS.out.kp⟩
          · have h1:=HS.out.dn;rw[HD2.out]at h1;exact h1
          · have h1:=HS.out.wk;rw[HL2.out]at h1;exact h1
          · have h1:=(HRCO.out);show w0.heap.size<=ad1.gO
            rw[HA1.out.2.2.2.1];exact h1
end
end Go.Proofs.YtngdbbligebcbabGreatDoor
