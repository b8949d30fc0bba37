import Derived.Test.YtfahabphncmbfaaGreatDoorZQ46
set_option linter.all false
set_option maxRecDepth 100000
set_option maxHeartbeats 64000000
namespace Go.Proofs.YtfahabphncmbfaaGreatDoor
open Go Go.RowKit
open Go.RowKit.Below renaming refl→Zl
open Bool renaming false_or→Yw,or_false→Yq,or_true→YC,true_or→YA
open Go.Lib renaming hid→Zf
open List renaming contains_cons→Z7,contains_nil→Yc,getD_cons_succ→ZG,getD_cons_zero→ZI,map_cons→ZM,map_nil→Yd,map_toArray→ZW
open Nat renaming reduceAdd→YE,reduceBEq→YD,zero_add→Yg,zero_le→Zu
open Go.Proofs.Tryz renaming prog→Zg
open Go renaming execOp→Yae,heap_alloc_new→Yak
open Go.Proofs.Tryz
theorem ZoQ(x y:Int):(if y<x then y else x)=min x y:=by split<;>omega
def IntNew(w:World)(v:Value):Prop:=∃ g,v=.slice (some ⟨g,0,none⟩) 0 0/\w.heap[g]?=some (.cells #[] 3 (0,0))
theorem IntNew.below{w w':World}{v:Value}(h:IntNew w v)(hb:Below w.heap.size w w'):IntNew w' v:=by obtain⟨g,e,hg⟩:=h;exact⟨g,e,by rw[hb.block _ (Array.getElem?_eq_some_iff.1 hg).1];exact hg⟩
theorem ZbB{P:Program}{o:Oper}{ρ:Operand->Value}{w w':World}{v:Value}(s x:Operand)(t:TypeId)(vs vx:Value)(ho:o.op=.call {callee:=.builtin .append,args:=#[s,x],argTypes:=#[t,t]})(hs:ρ s=vs)(hx:ρ x=vx)
  (hr:(Builtin.append_ #[t,t] o.type #[vs,vx]).run P w=.ok v w'):(Yae ρ o).run P w=.ok (.value v) w':=by
 unfold Yae;simp only[ho,resolve,invoke,builtin,Sem.run_bind,Sem.run_pure,Result.andThen_ok,ZW,ZM,Yd,hs,hx,hr]
theorem ZbM{w:World}{u:Value}(hu:IntNew w u){A:Option Addr}{n c:Nat}{zs:List Int}(hn:zs.length=n)(hl:n<=1000)(hI:Ints w w.heap.size A zs)(hA:A=none->n=0/\c=0):
  ∃A1 c1 w',(Builtin.append_ #[22,22] 22 #[u,.slice A n c]).run Zg w=.ok (.slice A1 n c1) w'/\OwnI w' 0 (.slice A1 n c1) zs/\n<=c1/\(A1=none->n=0/\c1=0)/\Below w.heap.size w w':=by
 obtain⟨g,rfl,hg⟩:=hu;obtain⟨i0,hi,hz0,hz1,hz2⟩:=Zev;subst hn;obtain⟨v',w',hr,ho,hb⟩:=Zbc (P:=Zg) w 22 22 3 i0 (.int .i64 0) 1 8 underlying22 hi hz0 hz1 hz2 rfl (by decide) 0 g hg (Zu _) (Zu _) A zs.length c (zs.map (Value.int .i64)) (by simp) hA (fun ad e=>by subst e;exact hI.cells) (Zcs zs) (by unfold maxLen;omega) (by omega);have ho2:OwnI w' 0 v' zs:=ho;obtain⟨A1,c1,rfl,_,hnn⟩:=ho2.sliceO;exact⟨A1,c1,w',hr,ho2,ho2.capLe,hnn,hb⟩
structure MtN(w8:World)(gN n cN:Nat)(W zs:List Int)(z:World):Prop where
 bel:Below w8.heap.size w8 z
 row:z.ownsRow w8.heap.size 3 1 (.slice (some ⟨gN,0,none⟩) n cN) n (zs.map (Value.int .i64))
 un:Under W zs
 hn:zs.length=n
section
variable {w8 z z': World}{gN n cN k: Nat}{W zs: List Int}
theorem MtN.next(h:MtN w8 gN n cN W zs z)(hb:Below z.heap.size z z'):MtN w8 gN n cN W zs z':=⟨h.bel.trans (hb.mono h.bel.size),Zac h.row hb,h.un,h.hn⟩
theorem MtN.own(h:MtN w8 gN n cN W zs z):OwnI z w8.heap.size (.slice (some ⟨gN,0,none⟩) n cN) zs:=by unfold OwnI;rw[h.hn];exact h.row
theorem MtN.cell(h:MtN w8 gN n cN W zs z){x:Int}(hk:zs[k]?=some x):z.cell? ⟨gN,k,none⟩=some (.int .i64 x):=ZaE h.row (by rw[List.getElem?_map,hk];rfl)
theorem MtN.frozen(h:MtN w8 gN n cN W zs z)(k:Nat):z.frozen? ⟨gN,k,none⟩=false:=Za4 h.row k
theorem MtN.set(h:MtN w8 gN n cN W zs z)(hk:k<n){x:Int}(hx:1<=x/\x<=zs.getD k 0):MtN w8 gN n cN W (zs.set k x) (z.setCell ⟨gN,k,none⟩ (.int .i64 x)):=by refine⟨h.bel.setCell (show w8.heap.size<=(⟨gN,k,none⟩:Addr).block from(Zgu h.row).1) _,?_,h.un.set (by rw[<-h.un.1,h.hn];exact hk) hx.1 hx.2,by rw[List.length_set];exact h.hn⟩;have:=ZbU h.row k (.int .i64 x);rw[<-List.map_set]at this;exact this
end
structure MtL(w0:World)(s:Sh)(T:Task)(g:Nat)(u:Shp)(gL:Nat)(A:Option Addr)(n c:Nat)(F:Option Addr)(m d:Nat)(vR:Value)(W:List Int)(E:List (Int×Int))(z:World):Prop where
 b:BxSs w0 s T g u z
 r:RowV gL 76 [.slice A n c,.slice F m d,vR] z
 l:IsG z A n c F m d W E
theorem MtL.next{w0:World}{s:Sh}{T:Task}{g:Nat}{u:Shp}{gL:Nat}{A:Option Addr}{n c:Nat}{F:Option Addr}{m d:Nat}{vR:Value}{W:List Int}{E:List (Int×Int)}{z z':World}(h:MtL w0 s T g u gL A n c F m d vR W E z)(hb:Below z.heap.size z z'):MtL w0 s T g u gL A n c F m d vR W E z':=
 ⟨h.b.next hb,h.r.below hb h.r.lt,h.l.below hb⟩
def ZqN(gN n cN lb lo n1 c1 k:Nat)(zk lk:Int):Nat->Value->World->Prop
 |0,v,w=>v=.slice (some ⟨gN,0,none⟩) n cN
 |1,v,w=>v=.int .i64 (k:Int)
 |2,v,w=>v=.slice (some ⟨gN,0,none⟩) n cN
 |3,v,w=>v=.int .i64 (k:Int)
 |4,v,w=>v=.pointer (some ⟨gN,0+k,none⟩)
 |5,v,w=>v=.int .i64 zk
 |6,v,w=>v=.slice (some ⟨lb,lo,none⟩) n1 c1
 |7,v,w=>v=.int .i64 (k:Int)
 |8,v,w=>v=.pointer (some ⟨lb,lo+k,none⟩)
 |9,v,w=>v=.int .i64 lk
 |10,v,w=>v=.int .i64 (min lk 1000)
 |11,v,w=>v=.int .i64 (max (min lk 1000) 0)
 |12,v,w=>v=.int .i64 (zk - max (min lk 1000) 0)
 |13,v,w=>v=.int .i64 (max 1 (zk - max (min lk 1000) 0))
 |14,v,w=>v=.pointer (some ⟨gN,0+k,none⟩)
 |15,v,w=>True
 |_,_,_=>True
theorem Zji(gN n cN lb lo n1 c1 k:Nat)(zk lk:Int):∀kq v w w',ZqN gN n cN lb lo n1 c1 k zk lk kq v w->Below w.heap.size w w'->ZqN gN n cN lb lo n1 c1 k zk lk kq v w':=by
 intro kq v w w' h hb
 match kq,h with
 |0,h=>exact h
 |1,h=>exact h
 |2,h=>exact h
 |3,h=>exact h
 |4,h=>exact h
 |5,h=>exact h
 |6,h=>exact h
 |7,h=>exact h
 |8,h=>exact h
 |9,h=>exact h
 |10,h=>exact h
 |11,h=>exact h
 |12,h=>exact h
 |13,h=>exact h
 |14,h=>exact h
 |15,h=>exact h
 |kq+16,h=>exact trivial
def ZoR(gL:Nat)(A:Option Addr)(n c:Nat)(F:Option Addr)(m d gN cN:Nat)(zs:List Int)(co:Int)(tn:Nat):Nat->Value->World->Prop
 |0,v,w=>v=.pointer (some ⟨gL,0,none⟩)
 |1,v,w=>v=(.agg #[.slice A n c,.slice F m d])
 |2,v,w=>IntNew w v
 |3,v,w=>v=.slice (some ⟨gN,0,none⟩) n cN
 |4,v,w=>∃A' c',v=.slice A' n c'/\OwnI w 0 (.slice A' n c') zs/\n<=c'/\(A'=none->n=0/\c'=0)
 |5,v,w=>v=.int .i64 co
 |6,v,w=>∃T' tc,v=.tuple #[.slice T' tn tc,.int .i64 0]
 |7,v,w=>∃T' tc,v=.tuple #[.slice T' tn tc,.int .i64 0]
 |8,v,w=>∃T' tc,v=.slice T' tn tc
 |9,v,w=>v=.int .i64 0
 |10,v,w=>∃T' tc,v=.slice T' tn tc
 |11,v,w=>v=.int .i64 0
 |_,_,_=>True
theorem ZfK(gL:Nat)(A:Option Addr)(n c:Nat)(F:Option Addr)(m d gN cN:Nat)(zs:List Int)(co:Int)(tn:Nat):∀kq v w w',ZoR gL A n c F m d gN cN zs co tn kq v w->Below w.heap.size w w'->ZoR gL A n c F m d gN cN zs co tn kq v w':=by
 intro kq v w w' h hb
 match kq,h with
 |0,h=>exact h
 |1,h=>exact h
 |2,h=>exact IntNew.below h hb
 |3,h=>exact h
 |4,h=>exact(by obtain⟨A',c',e,ho,hc,hn⟩:=h;exact⟨A',c',e,OwnI.below ho hb,hc,hn⟩)
 |5,h=>exact h
 |6,h=>exact h
 |7,h=>exact h
 |8,h=>exact h
 |9,h=>exact h
 |10,h=>exact h
 |11,h=>exact h
 |kq+12,h=>exact trivial
def ZoS(gL:Nat)(A:Option Addr)(n c:Nat)(F:Option Addr)(m d gN cN:Nat)(zs:List Int)(co:Int)(A2:Option Addr)(n2 c2:Nat)(pk:List Int)(tu:Nat)(st:Int):Nat->Value->World->Prop
 |0,v,w=>v=.pointer (some ⟨gL,0,none⟩)
 |1,v,w=>v=(.agg #[.slice A n c,.slice F m d])
 |2,v,w=>IntNew w v
 |3,v,w=>v=.slice (some ⟨gN,0,none⟩) n cN
 |4,v,w=>∃A' c',v=.slice A' n c'/\OwnI w 0 (.slice A' n c') zs/\n<=c'/\(A'=none->n=0/\c'=0)
 |5,v,w=>v=.int .i64 co
 |6,v,w=>IntNew w v
 |7,v,w=>v=.slice A2 n2 c2
 |8,v,w=>∃A' c',v=.slice A' n2 c'/\OwnI w 0 (.slice A' n2 c') pk/\n2<=c'/\(A'=none->n2=0/\c'=0)
 |9,v,w=>∃T' tc,v=.tuple #[.slice T' tu tc,.int .i64 st,.int .i64 0]
 |10,v,w=>∃T' tc,v=.tuple #[.slice T' tu tc,.int .i64 st,.int .i64 0]
 |11,v,w=>∃T' tc,v=.slice T' tu tc
 |12,v,w=>v=.int .i64 st
 |13,v,w=>v=.int .i64 0
 |14,v,w=>∃T' tc,v=.slice T' tu tc
 |15,v,w=>v=.int .i64 st
 |16,v,w=>v=.int .i64 0
 |_,_,_=>True
theorem ZfL(gL:Nat)(A:Option Addr)(n c:Nat)(F:Option Addr)(m d gN cN:Nat)(zs:List Int)(co:Int)(A2:Option Addr)(n2 c2:Nat)(pk:List Int)(tu:Nat)(st:Int):∀kq v w w',ZoS gL A n c F m d gN cN zs co A2 n2 c2 pk tu st kq v w->Below w.heap.size w w'->ZoS gL A n c F m d gN cN zs co A2 n2 c2 pk tu st kq v w':=by
 intro kq v w w' h hb
 match kq,h with
 |0,h=>exact h
 |1,h=>exact h
 |2,h=>exact IntNew.below h hb
 |3,h=>exact h
 |4,h=>exact(by obtain⟨A',c',e,ho,hc,hn⟩:=h;exact⟨A',c',e,OwnI.below ho hb,hc,hn⟩)
 |5,h=>exact h
 |6,h=>exact IntNew.below h hb
 |7,h=>exact h
 |8,h=>exact(by obtain⟨A',c',e,ho,hc,hn⟩:=h;exact⟨A',c',e,OwnI.below ho hb,hc,hn⟩)
 |9,h=>exact h
 |10,h=>exact h
 |11,h=>exact h
 |12,h=>exact h
 |13,h=>exact h
 |14,h=>exact h
 |15,h=>exact h
 |16,h=>exact h
 |kq+17,h=>exact trivial
theorem Zlz(w0:World){s:Sh}{T:Task}{A1:Option Addr}{n1 c1:Nat}{A2:Option Addr}{n2 c2:Nat}(h:InD w0 s T)(hT:DTab w0)(f:¬FewD T):
  Calls Zg 7 #[s.arg T.period T.deadline,.slice A1 n1 c1,.slice A2 n2 c2] w0 fun e w'=>e=.returned (.bool true)/\Below w0.heap.size w0 w':=by
 have HTW:=Zf (fun W (h:Below w0.heap.size w0 W)=>DTab.via hT h);have B0:=Zf (Bx1T.start h.t);have F1:=Zf f;clear h hT f;go_enter func7,ntmps7;go_wp2_with fail;refine(ZaT _ (HTW.out _ B0.out.bel)).mono ?_;rintro e w1 ⟨rfl,b1⟩;have B1:=Zf (B0.out.next b1);clear b1;obtain⟨k1,k2,k3,k4,k5,k6⟩:=B1.out.c;go_wp2_with fail;refine(ZsJ B1.out.t F1.out).mono ?_;rintro e w2 ⟨rfl,b2⟩;have B2:=Zf (B1.out.next b2);clear b2 k1 k2 k3 k4 k5 k6;go_wp2_with fail;refine(ZaT _ (HTW.out _ B2.out.bel)).mono ?_;rintro e w9 ⟨rfl,b9⟩;have B9:=Zf (B2.out.next b9);clear b9;go_wp2_with fail;go_ret;exact⟨rfl,B9.out.bel⟩
theorem ZlA(w0:World){s:Sh}{T:Task}{A1:Option Addr}{n1 c1:Nat}{A2:Option Addr}{n2 c2:Nat}(h:InD w0 s T)(hT:DTab w0)(f:FewD T)(hl:60<n1\/300<n2):
  Calls Zg 7 #[s.arg T.period T.deadline,.slice A1 n1 c1,.slice A2 n2 c2] w0 fun e w'=>e=.returned (.bool true)/\Below w0.heap.size w0 w':=by
 have HTW:=Zf (fun W (h:Below w0.heap.size w0 W)=>DTab.via hT h);have B0:=Zf ((Bx1T.start h.t).few h hT f);have F1:=Zf f;clear h hT f;by_cases hl1:60<n1
 ·clear hl
  go_enter func7,ntmps7;go_wp2_with fail;refine(ZaT _ (HTW.out _ B0.out.bel)).mono ?_;rintro e w1 ⟨rfl,b1⟩;have B1:=Zf (B0.out.next b1);clear b1;obtain⟨k1,k2,k3,k4,k5,k6⟩:=B1.out.c;go_wp2_with fail;refine(ZlK B1.out.d.t F1.out).mono ?_;rintro e w2 ⟨rfl,b2⟩;have B2:=Zf (B1.out.next b2);clear b2 k1 k2 k3 k4 k5 k6;go_wp2_with fail;refine(ZaT _ (HTW.out _ B2.out.bel)).mono ?_;rintro e w9 ⟨rfl,b9⟩;have B9:=Zf (B2.out.next b9);clear b9;go_wp2_with fail;go_ret;exact⟨rfl,B9.out.bel⟩
 ·have hl2: 300 < n2:=by omega
  clear hl;go_enter func7,ntmps7;go_wp2_with fail;refine(ZaT _ (HTW.out _ B0.out.bel)).mono ?_;rintro e w1 ⟨rfl,b1⟩;have B1:=Zf (B0.out.next b1);clear b1;obtain⟨k1,k2,k3,k4,k5,k6⟩:=B1.out.c;go_wp2_with fail;refine(ZlK B1.out.d.t F1.out).mono ?_;rintro e w2 ⟨rfl,b2⟩;have B2:=Zf (B1.out.next b2);clear b2 k1 k2 k3 k4 k5 k6;go_wp2_with fail;refine(ZaT _ (HTW.out _ B2.out.bel)).mono ?_;rintro e w9 ⟨rfl,b9⟩;have B9:=Zf (B2.out.next b9);clear b9;go_wp2_with fail;go_ret;exact⟨rfl,B9.out.bel⟩
theorem ZlB(w0:World){s:Sh}{T:Task}{A1:Option Addr}{n1 c1:Nat}{ls:List Int}{A2:Option Addr}{n2 c2:Nat}{pk:List Int}(h:InD w0 s T)(g1:InN w0 A1 n1 c1 ls)(g2:InN w0 A2 n2 c2 pk)(hT:DTab w0)(f:FewD T)(hl1:n1<=60)(hl2:n2<=300):
    Calls Zg 7 #[s.arg T.period T.deadline,.slice A1 n1 c1,.slice A2 n2 c2] w0 fun e w'=>e=.returned (.bool true)/\Below w0.heap.size w0 w':=by
  have HTW:=Zf (fun W (h:Below w0.heap.size w0 W)=>DTab.via hT h);have B0:=Zf ((Bx1T.start h.t).few h hT f);have F1:=Zf f;have HLI:=Zf g1.ints;have HLL:=Zf g1.hn;have HPI:=Zf (fun(W:World) (b:Below w0.heap.size w0 W)=>(g2.ints.below b).more b.size);have HLP:=Zf g2.hn;have HPN:=Zf g2.hN;clear h hT f g1 g2;obtain⟨P,np,pc,E0,ne,ec,F0,nf,fc,R0,nr,rc⟩:=s;obtain⟨x,hx⟩:∃r,r=lowX T:=⟨_,rfl⟩;obtain⟨u,hu⟩:∃r,r=ZcF T:=⟨_,rfl⟩;have CL:=Zf (fun W s (h:IsD W s T)=>ZgT s T W h);have KC:=Zf (fun W (b:Below w0.heap.size w0 W)=>ZdA u W (HTW.out W b));rw[<-hx,<-hu]at CL;by_cases h0:x=0
  · obtain⟨fa,hfa⟩:∃f,f=Zcu u:=⟨_,rfl⟩;obtain⟨co,hco⟩:∃f,f=ZbW u:=⟨_,rfl⟩;rw[<-hfa,<-hco]at KC;have hOK:ZdO T:=lowX_zero.mp (by rw[<-hx];exact h0);have hu2:=hu;obtain⟨ut,ul,um,ud,up⟩:=u;have h0b:(x !=0)=false:=by rw[h0];rfl
    unfold Shp.val at CL KC;dsimp only at CL KC;by_cases hf:fa=0
    · subst hf;by_cases ht:300<ut
      · subst h0;clear hOK hu hu2 hx hfa hco;go_enter func7,ntmps7;go_wp2_with fail;refine(ZaT _ (HTW.out _ B0.out.bel)).mono ?_;rintro e w1 ⟨rfl,b1⟩;have B1:=Zf (B0.out.next b1);clear b1;obtain⟨k1,k2,k3,k4,k5,k6⟩:=B1.out.c;go_wp2_with fail;refine(ZlK B1.out.d.t F1.out).mono ?_;rintro e w2 ⟨rfl,b2⟩;have B2:=Zf (B1.out.next b2);clear b2 k1 k2 k3 k4 k5 k6;obtain⟨k1,k2,k3,k4,k5,k6⟩:=B2.out.c;go_wp2_with fail;refine(ZmZ B2.out.d).mono ?_;rintro e w3 ⟨s',rfl,hs',b3⟩;have B3:=Zf (B2.out.next b3);have HS:=Zf hs';clear b3 hs' k1 k2 k3 k4 k5 k6;go_wp2_with fail;refine(CL.out _ _ HS.out).mono ?_;rintro e w4 ⟨rfl,b4⟩;obtain⟨w5,hw5⟩:∃w5,w5=w4.alloc (.cells #[.int .i64 ut,.int .i64 ul,.int .i64 um,.int .i64 ud,.int .i64 up] 67):=⟨_,rfl⟩;have hBL:=BxSs.start (u:=⟨ut,ul,um,ud,up⟩) (B3.out.next b4);dsimp only at hBL;obtain⟨⟨d0,d1⟩,d2,d3,d4⟩:=hBL.cells;dsimp only at d0 d1 d2 d3 d4;rw[<-hw5]at hBL;have HW:=Zf hw5;have B5:=Zf hBL;clear hw5 hBL b4 B0 B1 B2 B3 HS F1;go_wp2_with fail;rw[<-HW.out];clear HW d0 d1 d2 d3 d4;refine(KC.out _ B5.out.b.bel).mono ?_;rintro e w6 ⟨rfl,b6⟩;have B6:=Zf (B5.out.next b6);clear b6 B5 KC;obtain⟨⟨d0,d1⟩,d2,d3,d4⟩:=B6.out.cells;dsimp only at d0 d1 d2 d3 d4;go_wp2;go_ret;exact⟨rfl,B6.out.b.bel⟩
      · have HOKs:=ZkP hOK;rw[<-hu]at HOKs;have hyes:=Zhw hOK;have hGM:May (Zau T) (ZaH T):=by rw[hyes.1,hyes.2.1];exact hOK.2
        have hW1p:∀z∈Zau T,1<=z:=by rw[hyes.1];exact fun z hz=>ZkO hOK.1 z hz
        have hsz:=Zhv (T:=T) (by rw[<-hx];exact h0);have hlw:=(ZkL hOK).1;have hcf:=ZiJ HOKs hfa.symm;rw[<-hco]at hcf;have hsum:(Zau T).sum<=300:=by
          have e:(ZcF T).t=(Zau T).sum:=by have e1:ZcF T=⟨ZbF (Zau T) (ZaH T),Zb4 (Zau T) (ZaH T),maxL (Zau T),T.deadline,T.period⟩:=Zc hOK;rw[e1];exact Zc hGM
          rw[<-hu2]at e;dsimp only at e;omega
        obtain⟨mc,hmc⟩:∃mc:Nat,(mc:Int)=co:=⟨co.toNat,by omega⟩;have HRUN0:∀zs:List Int,Under (Zau T) zs->newE (Zau T) (ZaH T) zs co=0/\zs.sum<=300/\((runV (Zau T) (ZaH T) zs co).length:Int)<=T.deadline/\∀pk:List Int,((ZdV (Zau T).length mc (ZaH T) zs pk).length:Int)<=T.deadline:=fun zs hz=>by
          have hne:newE (Zau T) (ZaH T) zs co=0:=newE_zero.mpr ⟨hGM,hz.1,hz.mem (fun z hz=>(hGM.work z hz).2),hcf.1,hcf.2.1⟩;refine⟨hne,Int.le_trans (Zf6 hz.1 fun i hi=>(hz.2 i hi).2) hsum,?_,fun pk=> ?_⟩
          · exact ZiK hOK hz (by rw[<-hu2];exact hfa.symm) (m:=co.toNat) (by rw[<-hu2,<-hco];omega) (ZpM hne)
          · rw[<-hmc]at hne;exact ZiK hOK hz (by rw[<-hu2];exact hfa.symm) (m:=mc) (by rw[<-hu2,<-hco];exact hmc) (ZnZ hne)
        have HMC:=Zf hmc;have LW:=Zf (fun W s (h:IsD W s T)=>Zpe (s:=s) (T:=T) (w:=W) rfl rfl rfl h);rw[<-hx,h0]at LW;have hW2:∀z∈Zau T,z<=1000:=fun z hz=>(hGM.work z hz).2;obtain⟨n,hn⟩:∃n,n=(Zau T).length:=⟨_,rfl⟩;obtain⟨m,hm⟩:∃n,n=(ZaH T).length:=⟨_,rfl⟩;obtain⟨kk,hkk⟩:∃n,n=(ZbY T).length:=⟨_,rfl⟩;rw[<-hn,<-hm,<-hkk]at LW;rw[<-hn]at hlw;obtain⟨W,hW⟩:∃W,W=Zau T:=⟨_,rfl⟩;obtain⟨E,hE⟩:∃W,W=ZaH T:=⟨_,rfl⟩;obtain⟨Q,hQ⟩:∃W,W=ZbY T:=⟨_,rfl⟩;rw[<-hW,<-hE,<-hQ]at LW;rw[<-hW,<-hE]at HRUN0;rw[<-hW]at hW1p hW2;have HRUN:=Zf HRUN0;have HW1:=Zf hW1p;have HW2:=Zf hW2;have HN1:=Zf hlw;clear hyes hGM hW1p hsz hlw hcf hsum hmc hW2 hn hm hkk hW hE hQ HRUN0 hOK hu hu2 hx hfa hco HOKs h0b;subst h0;go_enter func7,ntmps7;go_wp2_with fail;refine(ZaT _ (HTW.out _ B0.out.bel)).mono ?_;rintro e w1 ⟨rfl,b1⟩;have B1:=Zf (B0.out.next b1);clear b1;obtain⟨k1,k2,k3,k4,k5,k6⟩:=B1.out.c;go_wp2_with fail;refine(ZlK B1.out.d.t F1.out).mono ?_;rintro e w2 ⟨rfl,b2⟩;have B2:=Zf (B1.out.next b2);clear b2 k1 k2 k3 k4 k5 k6;obtain⟨k1,k2,k3,k4,k5,k6⟩:=B2.out.c;go_wp2_with fail;refine(ZmZ B2.out.d).mono ?_;rintro e w3 ⟨s',rfl,hs',b3⟩;have B3:=Zf (B2.out.next b3);have HS:=Zf hs';clear b3 hs' k1 k2 k3 k4 k5 k6;go_wp2_with fail;refine(CL.out _ _ HS.out).mono ?_;rintro e w4 ⟨rfl,b4⟩;obtain⟨w5,hw5⟩:∃w5,w5=w4.alloc (.cells #[.int .i64 ut,.int .i64 ul,.int .i64 um,.int .i64 ud,.int .i64 up] 67):=⟨_,rfl⟩;have hBL:=BxSs.start (u:=⟨ut,ul,um,ud,up⟩) (B3.out.next b4);dsimp only at hBL;obtain⟨⟨d0,d1⟩,d2,d3,d4⟩:=hBL.cells;dsimp only at d0 d1 d2 d3 d4;rw[<-hw5]at hBL;have HW:=Zf hw5;have B5:=Zf hBL;clear hw5 hBL b4 B0 B1 B2 B3 HS F1;go_wp2_with fail;rw[<-HW.out];clear HW d0 d1 d2 d3 d4;refine(KC.out _ B5.out.b.bel).mono ?_;rintro e w6 ⟨rfl,b6⟩;have B6:=Zf (B5.out.next b6);clear b6 B5 KC;obtain⟨⟨d0,d1⟩,d2,d3,d4⟩:=B6.out.cells;dsimp only at d0 d1 d2 d3 d4;obtain⟨k1,k2,k3,k4,k5,k6⟩:=B6.out.b.c;go_wp2_with fail;refine(ZmZ B6.out.b.d).mono ?_;rintro e w10 ⟨s'',rfl,hs',b3⟩;have B10:=Zf (B6.out.next b3);have HS:=Zf hs';clear b3 hs' k1 k2 k3 k4 k5 k6 d0 d1 d2 d3 d4 B6;go_wp2_with fail;refine(LW.out _ _ HS.out).mono ?_;rintro e w11 ⟨A,c,F,d,R,z0,rfl,hL,b4⟩;have hML:MtL w0 ⟨P,np,pc,E0,ne,ec,F0,nf,fc,R0,nr,rc⟩ T w4.heap.size ⟨ut,ul,um,ud,up⟩ w11.heap.size A n c F m d (.slice R kk z0) W E (w11.alloc (.cells #[.slice A n c,.slice F m d,.slice R kk z0] 76)):=⟨(B10.out.next b4).next (Zaa _),RowV.new _ _ _,hL.g.below (Zaa _)⟩;obtain⟨gL,hgL⟩:∃g,g=w11.heap.size:=⟨_,rfl⟩;obtain⟨w8,hw8⟩:∃w8,w8=w11.alloc (.cells #[.slice A n c,.slice F m d,.slice R kk z0] 76):=⟨_,rfl⟩;have hng:=hL.g.hA;rw[<-hw8,<-hgL]at hML;obtain⟨v',w9,hr9,hO9,hB9⟩:=Zi3 w8 22 A c W (by have:=hML.l.ln;have:=hML.l.hn;omega) hML.l.ints (fun e=>by have:=hML.l.hA e;have:=hML.l.hn;omega);obtain⟨gN,cN,hv',hrow⟩:∃gN cN,v'=.slice (some ⟨gN,0,none⟩) n cN/\w9.ownsRow w8.heap.size 3 1 (.slice (some ⟨gN,0,none⟩) n cN) n (W.map (Value.int .i64)):=by
          have hlen:=hML.l.hn;have h9:=hO9;unfold OwnI at h9;rw[hlen]at h9;rcases h9.2 with⟨_,h0⟩|⟨g,cap,cur,rfl,_⟩
          · exact absurd h0 (by have:=HN1.out;omega)
          · exact⟨g,cap,rfl,h9⟩
        subst hv';have HN:=Zf (show MtN w8 gN n cN W W w9 from⟨hB9,hrow,Under.start HW1.out,hML.l.hn⟩);have HBL0:=Zf hML;have HBL:=Zf (fun z (b:Below w8.heap.size w8 z)=>HBL0.out.next b);have HB08:=Zf hML.b.b.bel;have HWN:Hid (W.length=n):=Zf hML.l.hn;rw[HWN.out]at hr9;have q0:=hML.r.cell (j:=0) rfl;have hgl:=hML.r.lt;have HW8:=Zf hw8;have HGL:=Zf hgL;clear hO9 hB9 hrow hL b4 B10 HS LW hng hML hw8 hgL;go_upto_region 8 with(fail);rw[<-HW8.out,<-HGL.out];go_wp2_with(at_builtin;refine Zcp rfl _ _ 22 _ _ rfl rfl rfl hr9 ?_);clear q0 hgl hr9;go_loopw [14] (fun v wr=>∃(k:Nat) (zs:List Int),k<=n/\v=.int .i64 k/\Hid (MtN w8 gN n cN W zs wr)) (fun v _=>n - (intOf v).toNat)
        case atStart=>exact⟨0,W,Zu _,rfl,HN⟩
        case round=>
          clear HN;obtain⟨k,zs,hk,rfl,HN⟩:=hrel;by_cases hlt:k<n
          · by_cases hlt1:k<n1
            · obtain⟨lb,lo,lk,hA1,hlb,hlk,hcl⟩:=HLI.out.at_ (k:=k) (by rw[HLL.out];exact hlt1);subst hA1;have HLK:=Zf (fun z (b:Below w8.heap.size w8 z)=>((HB08.out.trans (b.mono HB08.out.size)).cell hlb).trans hcl);obtain⟨zk,hzk⟩:∃zk,zs[k]?=some zk:=⟨_,List.getElem?_eq_getElem (by rw[HN.out.hn];exact hlt)⟩;have hzd:zs.getD k 0=zk:=by rw[List.getD_eq_getElem?_getD,hzk];rfl
              have hzb:=HN.out.un.mem HW2.out zk (List.mem_of_getElem? hzk);have HZK:=Zf (fun z (h:MtN w8 gN n cN W zs z)=>(h.cell hzk:z.cell? ⟨gN,k,none⟩=some (.int .i64 zk)));have HKN:=Zf hlt;have HK1:=Zf hlt1;have HWR:=Zf (show IntKind.i64.wrap (zk - max (min lk 1000) 0)=zk - max (min lk 1000) 0 from IntWalk.i64_in _ (by omega));have HZV:=Zf (show 1<=max 1 (zk - max (min lk 1000) 0)/\max 1 (zk - max (min lk 1000) 0)<=zs.getD k 0 by rw[hzd];omega);clear hlb hlk hcl hzk hzd hzb;go_wp2_with fail;refine Zft 15 [83,84,85,86,87,88,89,90,91,92,93,94,95,96,97,1000] [] (by kernel_rfl) (by kernel_rfl) (by intro d hd;simp at hd⊢;omega) (MtN w8 gN n cN W zs) (ZqN gN n cN lb lo n1 c1 k zk lk) (fun _ z=>MtN w8 gN n cN W (zs.set k (max 1 (zk - max (min lk 1000) 0))) z)
                (fun x y h hb=>h.next hb) (Zji gN n cN lb lo n1 c1 k zk lk) (HN.out.next (Zl _ _).drew) ?hstep ?hpure ?hstore ?htheta ?hend
              case hstep=>
                intro kq o hkp hkS ho a w hI hA hd K hK;obtain⟨ρ,hρ⟩:∃ρ,a.eval=ρ:=⟨_,rfl⟩;rw[hρ]at hA hd
                match kq,hkp,hkS,ho with
                | 0, _, _, ho =>cases ho;exact Zab hK hρ (.slice (some ⟨gN,0,none⟩) n cN) (by have h:=hA.tmp 13 (by decide);simp[Yae,h,go_sem]) rfl
                | 1, _, _, ho =>cases ho;exact Zab hK hρ (.int .i64 (k:Int)) (by have h:=hA.tmp 14 (by decide);simp[Yae,h,go_sem]) rfl
                | 2, _, _, ho =>cases ho;exact Zab hK hρ (.slice (some ⟨gN,0,none⟩) n cN) (by have h:=hA.tmp 13 (by decide);simp[Yae,h,go_sem]) rfl
                | 3, _, _, ho =>cases ho;exact Zab hK hρ (.int .i64 (k:Int)) (by have h:=hA.tmp 14 (by decide);simp[Yae,h,go_sem]) rfl
                | 4, _, _, ho =>
                  cases ho;have f2:(ρ (.tmp 85))=.slice (some ⟨gN,0,none⟩) n cN:=hd ⟨2,.data⟩ (by simp) (by rfl);have f3:(ρ (.tmp 86))=.int .i64 (k:Int):=hd ⟨3,.data⟩ (by simp) (by rfl)
                  exact Zab hK hρ _ (Zjk rfl f2 f3 HKN.out) rfl
                | 5, _, _, ho =>
                  cases ho;have f4:(ρ (.tmp 87))=.pointer (some ⟨gN,0+k,none⟩):=hd ⟨4,.data⟩ (by simp) (by rfl)
                  have q0:=HZK.out w hI;rw[Yg]at f4;exact Zab hK hρ (.int .i64 zk) (by simp[Yae,f4,q0,go_sem]) rfl
                | 6, _, _, ho =>cases ho;exact Zab hK hρ (.slice (some ⟨lb,lo,none⟩) n1 c1) (by have h:=hA.tmp 1 (by decide);simp[Yae,h,go_sem]) rfl
                | 7, _, _, ho =>cases ho;exact Zab hK hρ (.int .i64 (k:Int)) (by have h:=hA.tmp 14 (by decide);simp[Yae,h,go_sem]) rfl
                | 8, _, _, ho =>
                  cases ho;have f6:(ρ (.tmp 89))=.slice (some ⟨lb,lo,none⟩) n1 c1:=hd ⟨6,.data⟩ (by simp) (by rfl);have f7:(ρ (.tmp 90))=.int .i64 (k:Int):=hd ⟨7,.data⟩ (by simp) (by rfl)
                  exact Zab hK hρ _ (Zjk rfl f6 f7 HK1.out) rfl
                | 9, _, _, ho =>
                  cases ho;have f8:(ρ (.tmp 91))=.pointer (some ⟨lb,lo+k,none⟩):=hd ⟨8,.data⟩ (by simp) (by rfl)
                  have q0:=HLK.out w hI.bel;exact Zab hK hρ (.int .i64 lk) (by simp[Yae,f8,q0,go_sem]) rfl
                | 10, _, _, ho =>
                  cases ho;have f9:(ρ (.tmp 92))=.int .i64 lk:=hd ⟨9,.data⟩ (by simp) (by rfl)
                  exact Zab hK hρ (.int .i64 (min lk 1000)) (by simp[Yae,f9,hA.const,go_sem,ZoQ]) rfl
                | 11, _, _, ho =>
                  cases ho;have f10:(ρ (.tmp 93))=.int .i64 (min lk 1000):=hd ⟨10,.data⟩ (by simp) (by rfl)
                  exact Zab hK hρ (.int .i64 (max (min lk 1000) 0)) (by simp[Yae,f10,hA.const,go_sem,ZkM]) rfl
                | 12, _, _, ho =>
                  cases ho;have f5:(ρ (.tmp 88))=.int .i64 zk:=hd ⟨5,.data⟩ (by simp) (by rfl);have f11:(ρ (.tmp 94))=.int .i64 (max (min lk 1000) 0):=hd ⟨11,.data⟩ (by simp) (by rfl)
                  exact Zab hK hρ (.int .i64 (zk - max (min lk 1000) 0)) (by simp[Yae,f5,f11,HWR.out,go_sem]) rfl
                | 13, _, _, ho =>
                  cases ho;have f12:(ρ (.tmp 95))=.int .i64 (zk - max (min lk 1000) 0):=hd ⟨12,.data⟩ (by simp) (by rfl)
                  exact Zab hK hρ (.int .i64 (max 1 (zk - max (min lk 1000) 0))) (by simp[Yae,f12,hA.const,go_sem,ZkM]) rfl
                | 14, _, _, ho =>
                  cases ho;have f0:(ρ (.tmp 83))=.slice (some ⟨gN,0,none⟩) n cN:=hd ⟨0,.data⟩ (by simp) (by rfl);have f1:(ρ (.tmp 84))=.int .i64 (k:Int):=hd ⟨1,.data⟩ (by simp) (by rfl)
                  exact Zab hK hρ _ (Zjk rfl f0 f1 HKN.out) rfl
                |15,hkp,_,_=>exact absurd rfl hkp
                |kq+16,_,_,ho=>simp at ho
              case hpure=>intro kq o hkS ho ρ w hA hd;exact absurd hkS (by simp)
              case hstore=>intro o ho a w hI hA hF K hK;cases ho;have f13:a.eval (.tmp 96)=.int .i64 (max 1 (zk - max (min lk 1000) 0)):=hF 13 (by decide) (by decide) (by decide);have f14:a.eval (.tmp 97)=.pointer (some ⟨gN,0+k,none⟩):=hF 14 (by decide) (by decide) (by decide);rw[Yg]at f14;have q0:=HZK.out w hI;have e0:=hI.frozen k;obtain⟨ρ,hρ⟩:∃ρ,a.eval=ρ:=⟨_,rfl⟩;rw[hρ]at f13 f14;unfold Oper.wp;rw[show(Yae a.eval _).run Zg w=.ok .skip (w.setCell ⟨gN,k,none⟩ (.int .i64 (max 1 (zk - max (min lk 1000) 0))))from by rw[hρ];simp[Yae,f13,f14,q0,e0,go_sem],Oper.upon_skip];exact hK _ (hI.set HKN.out HZV.out)
              case htheta=>intro f g w h hT;exact hT
              case hend=>
                intro vals x12 hT hF12;clear hF12;have HT12:=Zf hT;clear hT;simp only[ZaW,Zba,Z7,Yc,YD,Yq,Yw,YC,YA,cond_true,cond_false,Yg,YE];go_wp2;go_roundw
                case rel=>exact⟨k+1,_,by omega,by go_num,HT12⟩
                case measure=>simp[intOf];omega
            · go_wp2_with fail;have HLZ:=Zf HN.out.hn;have HRO:=Zf (HRUN.out zs HN.out.un);obtain⟨tn,htn⟩:∃t,t=(runV W E zs co).length:=⟨_,rfl⟩;obtain⟨tu,htu⟩:∃t,t=(ZdV W.length mc E zs pk).length:=⟨_,rfl⟩;obtain⟨st,hst⟩:∃t:Int,t=((Zbv W.length mc E zs pk (lenG W.length mc E zs pk)).1:Nat):=⟨_,rfl⟩;have HLR:=Zf (fun W' (b:Below w8.heap.size w8 W') A' c' (h1:Ints W' W'.heap.size A' zs) (h2:A'=none->n=0/\c'=0)=>(show Calls Zg 36 #[.agg #[.slice A n c,.slice F m d],.slice A' n c',.int .i64 co] W' fun e w'=>∃T' tc,e=.returned (.tuple #[.slice T' tn tc,.int .i64 0])/\Below W'.heap.size W' w' from
                (Zla co W' (HBL.out W' b).l HLZ.out (by have:=(HBL.out W' b).l.ln;omega) h1 h2 (fun _=>HRO.out.2.1)).mono fun e w' ⟨v,he,⟨T',tc,hv,_,_⟩,hb⟩=>⟨T',tc,by rw[he,hv,htn,HRO.out.1],hb⟩))
              have HSR:=Zf (fun W' (b:Below w8.heap.size w8 W') A' c' (h1:Ints W' W'.heap.size A' zs) (h2:A'=none->n=0/\c'=0) A3 c3 (h3:Ints W' W'.heap.size A3 pk) (h4:n2<=c3)=>(show Calls Zg 11 #[.agg #[.slice A n c,.slice F m d],.slice A' n c',.int .i64 co,.slice A3 n2 c3] W' fun e w'=>∃T' tc,e=.returned (.tuple #[.slice T' tu tc,.int .i64 st,.int .i64 0])/\Below W'.heap.size W' w' from by
                rw[<-HMC.out];exact(Zls (m:=mc) W' ((HTW.out _ (HB08.out.trans (b.mono HB08.out.size)))) (HBL.out W' b).l HLZ.out (by have:=(HBL.out W' b).l.ln;omega) h1 h2 HLP.out (by omega) h3 h4 (by rw[HMC.out];exact HRO.out.1) HRO.out.2.1).mono fun e w' ⟨v,he,⟨T',tc,hv,_,_⟩,hb⟩=>⟨T',tc,by rw[he,hv,htu,hst],hb⟩))
              have hdt:(tn:Int)<=T.deadline:=by rw[htn];exact HRO.out.2.2.1
              have hdu:(tu:Int)<=T.deadline:=by rw[htu];exact HRO.out.2.2.2 pk
              have hnn:n<=400:=(HBL.out _ HN.out.bel).l.ln;clear htn htu hst HRO HRUN;refine ZaO [99,100,101,102,103,104,105,98,106,107,15,16] [] [] (by kernel_rfl) (by kernel_rfl) (by kernel_rfl) (by intro d hd;simp at hd⊢;omega) (MtN w8 gN n cN W zs) (ZoR gL A n c F m d gN cN zs co tn)
                (fun z z' h hb=>h.next hb) (ZfK gL A n c F m d gN cN zs co tn) (HN.out.next (Zl _ _).drew) (fun p hp v w hv=>by cases hp) (fun kq hkq=>by simp at hkq) ?hstep ?hend
              case hstep=>
                intro kq o ho hw a w hI hA hd K hK;obtain⟨ρ,hρ⟩:∃ρ,a.eval=ρ:=⟨_,rfl⟩;rw[hρ]at hA hd
                match kq,ho with
                | 0, ho =>cases ho;exact Zab hK hρ (.pointer (some ⟨gL,0,none⟩)) (by have h:=hA.tmp 11 (by decide);simp[Yae,h,go_sem]) rfl
                | 1, ho =>
                  cases ho;have f0:(ρ (.tmp 99))=.pointer (some ⟨gL,0,none⟩):=hd ⟨0,.data⟩ (by simp) (by rfl)
                  have q0:=(HBL.out w hI.bel).r.cell (j:=0) rfl;have q1:=(HBL.out w hI.bel).r.cell (j:=1) rfl;exact Zab hK hρ (.agg #[.slice A n c,.slice F m d]) (by simp[Yae,f0,q0,q1,go_sem]) rfl
                | 2, ho =>cases ho;exact ZaZ hK hρ (.slice (some ⟨w.heap.size,0,none⟩) 0 0) (w.alloc (.cells #[] 3)) (by simp[Yae,go_sem]) ⟨w.heap.size,rfl,Yak w _⟩ (Zaa _)
                | 3, ho =>cases ho;exact Zab hK hρ (.slice (some ⟨gN,0,none⟩) n cN) (by have h:=hA.tmp 13 (by decide);simp[Yae,h,go_sem]) rfl
                | 4, ho =>
                  cases ho;have f2:IntNew w (ρ (.tmp 101)):=hd ⟨2,.data⟩ (by simp) (by rfl);have f3:(ρ (.tmp 102))=.slice (some ⟨gN,0,none⟩) n cN:=hd ⟨3,.data⟩ (by simp) (by rfl);obtain⟨yv,hyv⟩:∃yv,ρ (.tmp 101)=yv:=⟨_,rfl⟩;rw[hyv]at f2;obtain⟨A',c',w',hr,ho,hc,hn,hb⟩:=ZbM f2 HLZ.out (by omega) hI.own.ints (fun e=>by cases e)
                  exact ZaZ hK hρ _ w' (ZbB (.tmp 101) (.tmp 102) 22 _ _ rfl hyv f3 hr) ⟨A',c',rfl,ho,hc,hn⟩ hb
                | 5, ho =>cases ho;exact Zab hK hρ (.int .i64 co) (by have h:=hA.tmp 9 (by decide);simp[Yae,h,go_sem]) rfl
                | 6, ho =>
                  cases ho;have f1:(ρ (.tmp 100))=(.agg #[.slice A n c,.slice F m d]):=hd ⟨1,.data⟩ (by simp) (by rfl);have f4:∃A' c',(ρ (.tmp 103))=.slice A' n c'/\OwnI w 0 (.slice A' n c') zs/\n<=c'/\(A'=none->n=0/\c'=0):=hd ⟨4,.data⟩ (by simp) (by rfl);have f5:(ρ (.tmp 104))=.int .i64 co:=hd ⟨5,.data⟩ (by simp) (by rfl)
                  obtain⟨A',c',f4,ho,hc,hn⟩:=f4;exact ZaU hK hρ 36 _ _ #[.agg #[.slice A n c,.slice F m d],.slice A' n c',.int .i64 co] rfl (by simp only[ZW,ZM,Yd,f1,f4,f5]) (Za1 func36 (by kernel_rfl) rfl) ((HLR.out w hI.bel A' c' ho.ints hn).mono fun e w' ⟨T',tc,he,hb⟩=>⟨_,he,⟨T',tc,rfl⟩,hb⟩)
                | 7, ho =>
                  cases ho;have f6:∃T' tc,(ρ (.tmp 105))=.tuple #[.slice T' tn tc,.int .i64 0]:=hd ⟨6,.data⟩ (by simp) (by rfl)
                  obtain⟨T',tc,e⟩:=f6;exact Zab hK hρ _ (by simp[Yae,e,go_sem]) ⟨T',tc,rfl⟩
                | 8, ho =>
                  cases ho;have f7:∃T' tc,(ρ (.tmp 98))=.tuple #[.slice T' tn tc,.int .i64 0]:=hd ⟨7,.data⟩ (by simp) (by rfl)
                  obtain⟨T',tc,e⟩:=f7;exact Zab hK hρ (.slice T' tn tc) (by simp[Yae,e,go_sem]) ⟨T',tc,rfl⟩
                | 9, ho =>
                  cases ho;have f7:∃T' tc,(ρ (.tmp 98))=.tuple #[.slice T' tn tc,.int .i64 0]:=hd ⟨7,.data⟩ (by simp) (by rfl)
                  obtain⟨T',tc,e⟩:=f7;exact Zab hK hρ (.int .i64 0) (by simp[Yae,e,go_sem]) rfl
                | 10, ho =>
                  cases ho;have f8:∃T' tc,(ρ (.tmp 106))=.slice T' tn tc:=hd ⟨8,.data⟩ (by simp) (by rfl)
                  obtain⟨T',tc,e⟩:=f8;exact Zab hK hρ (.slice T' tn tc) (by simp[Yae,e,go_sem]) ⟨T',tc,rfl⟩
                | 11, ho =>
                  cases ho;have f9:(ρ (.tmp 107))=.int .i64 0:=hd ⟨9,.data⟩ (by simp) (by rfl)
                  exact Zab hK hρ (.int .i64 0) (by simp[Yae,f9,hA.const,go_sem]) rfl
                |kq+12,ho=>simp at ho
              case hend=>
                intro vals x13 hI hF13;obtain⟨T',tc,f10⟩:=hF13 10 (by decide);have f11:vals 16=.int .i64 0:=hF13 11 (by decide);simp only[ZI,ZG]at f10;have HN:=Zf hI;clear hF13 hI;simp only[f10,f11,ZaW,Zba,Z7,Yc,YD,Yq,Yw,YC,YA,cond_true,cond_false,Yg,YE];go_wp2_with fail;refine ZaO [109,110,111,112,113,114,115,116,117,118,108,119,120,121,17,18,19] [] [] (by kernel_rfl) (by kernel_rfl) (by kernel_rfl) (by intro d hd;simp at hd⊢;omega) (MtN w8 gN n cN W zs) (ZoS gL A n c F m d gN cN zs co A2 n2 c2 pk tu st)
                  (fun z z' h hb=>h.next hb) (ZfL gL A n c F m d gN cN zs co A2 n2 c2 pk tu st) (HN.out.next (Zl _ _).drew) (fun p hp v w hv=>by cases hp) (fun kq hkq=>by simp at hkq) ?hstep ?hend
                case hstep=>
                  intro kq o ho hw a w hI hA hd K hK;obtain⟨ρ,hρ⟩:∃ρ,a.eval=ρ:=⟨_,rfl⟩;rw[hρ]at hA hd
                  match kq,ho with
                  | 0, ho =>cases ho;exact Zab hK hρ (.pointer (some ⟨gL,0,none⟩)) (by have h:=hA.tmp 11 (by decide);simp[Yae,h,go_sem]) rfl
                  | 1, ho =>
                    cases ho;have f0:(ρ (.tmp 109))=.pointer (some ⟨gL,0,none⟩):=hd ⟨0,.data⟩ (by simp) (by rfl)
                    have q0:=(HBL.out w hI.bel).r.cell (j:=0) rfl;have q1:=(HBL.out w hI.bel).r.cell (j:=1) rfl;exact Zab hK hρ (.agg #[.slice A n c,.slice F m d]) (by simp[Yae,f0,q0,q1,go_sem]) rfl
                  | 2, ho =>cases ho;exact ZaZ hK hρ (.slice (some ⟨w.heap.size,0,none⟩) 0 0) (w.alloc (.cells #[] 3)) (by simp[Yae,go_sem]) ⟨w.heap.size,rfl,Yak w _⟩ (Zaa _)
                  | 3, ho =>cases ho;exact Zab hK hρ (.slice (some ⟨gN,0,none⟩) n cN) (by have h:=hA.tmp 13 (by decide);simp[Yae,h,go_sem]) rfl
                  | 4, ho =>
                    cases ho;have f2:IntNew w (ρ (.tmp 111)):=hd ⟨2,.data⟩ (by simp) (by rfl);have f3:(ρ (.tmp 112))=.slice (some ⟨gN,0,none⟩) n cN:=hd ⟨3,.data⟩ (by simp) (by rfl);obtain⟨yv,hyv⟩:∃yv,ρ (.tmp 111)=yv:=⟨_,rfl⟩;rw[hyv]at f2;obtain⟨A',c',w',hr,ho,hc,hn,hb⟩:=ZbM f2 HLZ.out (by omega) hI.own.ints (fun e=>by cases e)
                    exact ZaZ hK hρ _ w' (ZbB (.tmp 111) (.tmp 112) 22 _ _ rfl hyv f3 hr) ⟨A',c',rfl,ho,hc,hn⟩ hb
                  | 5, ho =>cases ho;exact Zab hK hρ (.int .i64 co) (by have h:=hA.tmp 9 (by decide);simp[Yae,h,go_sem]) rfl
                  | 6, ho =>cases ho;exact ZaZ hK hρ (.slice (some ⟨w.heap.size,0,none⟩) 0 0) (w.alloc (.cells #[] 3)) (by simp[Yae,go_sem]) ⟨w.heap.size,rfl,Yak w _⟩ (Zaa _)
                  | 7, ho =>cases ho;exact Zab hK hρ (.slice A2 n2 c2) (by have h:=hA.tmp 2 (by decide);simp[Yae,h,go_sem]) rfl
                  | 8, ho =>
                    cases ho;have f6:IntNew w (ρ (.tmp 115)):=hd ⟨6,.data⟩ (by simp) (by rfl);have f7:(ρ (.tmp 116))=.slice A2 n2 c2:=hd ⟨7,.data⟩ (by simp) (by rfl);obtain⟨yv,hyv⟩:∃yv,ρ (.tmp 115)=yv:=⟨_,rfl⟩;rw[hyv]at f6;obtain⟨A',c',w',hr,ho,hc,hn,hb⟩:=ZbM f6 HLP.out (by omega) (HPI.out w (HB08.out.trans (hI.bel.mono HB08.out.size))) HPN.out
                    exact ZaZ hK hρ _ w' (ZbB (.tmp 115) (.tmp 116) 22 _ _ rfl hyv f7 hr) ⟨A',c',rfl,ho,hc,hn⟩ hb
                  | 9, ho =>
                    cases ho;have f1:(ρ (.tmp 110))=(.agg #[.slice A n c,.slice F m d]):=hd ⟨1,.data⟩ (by simp) (by rfl);have f4:∃A' c',(ρ (.tmp 113))=.slice A' n c'/\OwnI w 0 (.slice A' n c') zs/\n<=c'/\(A'=none->n=0/\c'=0):=hd ⟨4,.data⟩ (by simp) (by rfl);have f5:(ρ (.tmp 114))=.int .i64 co:=hd ⟨5,.data⟩ (by simp) (by rfl);have f8:∃A' c',(ρ (.tmp 117))=.slice A' n2 c'/\OwnI w 0 (.slice A' n2 c') pk/\n2<=c'/\(A'=none->n2=0/\c'=0):=hd ⟨8,.data⟩ (by simp) (by rfl)
                    obtain⟨A',c',f4,ho,hc,hn⟩:=f4;obtain⟨A3,c3,f8,ho3,hc3,hn3⟩:=f8;exact ZaU hK hρ 11 _ _ #[.agg #[.slice A n c,.slice F m d],.slice A' n c',.int .i64 co,.slice A3 n2 c3] rfl (by simp only[ZW,ZM,Yd,f1,f4,f5,f8]) (Za1 func11 (by kernel_rfl) rfl) ((HSR.out w hI.bel A' c' ho.ints hn A3 c3 ho3.ints hc3).mono fun e w' ⟨T',tc,he,hb⟩=>⟨_,he,⟨T',tc,rfl⟩,hb⟩)
                  | 10, ho =>
                    cases ho;have f9:∃T' tc,(ρ (.tmp 118))=.tuple #[.slice T' tu tc,.int .i64 st,.int .i64 0]:=hd ⟨9,.data⟩ (by simp) (by rfl)
                    obtain⟨T',tc,e⟩:=f9;exact Zab hK hρ _ (by simp[Yae,e,go_sem]) ⟨T',tc,rfl⟩
                  | 11, ho =>
                    cases ho;have f10:∃T' tc,(ρ (.tmp 108))=.tuple #[.slice T' tu tc,.int .i64 st,.int .i64 0]:=hd ⟨10,.data⟩ (by simp) (by rfl)
                    obtain⟨T',tc,e⟩:=f10;exact Zab hK hρ (.slice T' tu tc) (by simp[Yae,e,go_sem]) ⟨T',tc,rfl⟩
                  | 12, ho =>
                    cases ho;have f10:∃T' tc,(ρ (.tmp 108))=.tuple #[.slice T' tu tc,.int .i64 st,.int .i64 0]:=hd ⟨10,.data⟩ (by simp) (by rfl)
                    obtain⟨T',tc,e⟩:=f10;exact Zab hK hρ (.int .i64 st) (by simp[Yae,e,go_sem]) rfl
                  | 13, ho =>
                    cases ho;have f10:∃T' tc,(ρ (.tmp 108))=.tuple #[.slice T' tu tc,.int .i64 st,.int .i64 0]:=hd ⟨10,.data⟩ (by simp) (by rfl)
                    obtain⟨T',tc,e⟩:=f10;exact Zab hK hρ (.int .i64 0) (by simp[Yae,e,go_sem]) rfl
                  | 14, ho =>
                    cases ho;have f11:∃T' tc,(ρ (.tmp 119))=.slice T' tu tc:=hd ⟨11,.data⟩ (by simp) (by rfl)
                    obtain⟨T',tc,e⟩:=f11;exact Zab hK hρ (.slice T' tu tc) (by simp[Yae,e,go_sem]) ⟨T',tc,rfl⟩
                  | 15, ho =>
                    cases ho;have f12:(ρ (.tmp 120))=.int .i64 st:=hd ⟨12,.data⟩ (by simp) (by rfl)
                    exact Zab hK hρ (.int .i64 st) (by simp[Yae,f12,hA.const,go_sem]) rfl
                  | 16, ho =>
                    cases ho;have f13:(ρ (.tmp 121))=.int .i64 0:=hd ⟨13,.data⟩ (by simp) (by rfl)
                    exact Zab hK hρ (.int .i64 0) (by simp[Yae,f13,hA.const,go_sem]) rfl
                  |kq+17,ho=>simp at ho
                case hend=>intro vals4 x14 hI hF14;obtain⟨T2,tc2,f14⟩:=hF14 14 (by decide);have f16:vals4 19=.int .i64 0:=hF14 16 (by decide);simp only[ZI,ZG]at f14;have B14:=Zf (HBL.out _ hI.bel);clear hF14 hI;obtain⟨k1,k2,k3,k4,k5,k6⟩:=B14.out.b.b.c;simp only[f14,f16,ZaW,Zba,Z7,Yc,YD,Yq,Yw,YC,YA,cond_true,cond_false,Yg,YE];go_wp2;go_ret;exact⟨rfl,B14.out.b.b.bel⟩
          · have e:n=k:=by omega
            subst e;go_wp2_with fail;have HLZ:=Zf HN.out.hn;have HRO:=Zf (HRUN.out zs HN.out.un);obtain⟨tn,htn⟩:∃t,t=(runV W E zs co).length:=⟨_,rfl⟩;obtain⟨tu,htu⟩:∃t,t=(ZdV W.length mc E zs pk).length:=⟨_,rfl⟩;obtain⟨st,hst⟩:∃t:Int,t=((Zbv W.length mc E zs pk (lenG W.length mc E zs pk)).1:Nat):=⟨_,rfl⟩;have HLR:=Zf (fun W' (b:Below w8.heap.size w8 W') A' c' (h1:Ints W' W'.heap.size A' zs) (h2:A'=none->n=0/\c'=0)=>(show Calls Zg 36 #[.agg #[.slice A n c,.slice F m d],.slice A' n c',.int .i64 co] W' fun e w'=>∃T' tc,e=.returned (.tuple #[.slice T' tn tc,.int .i64 0])/\Below W'.heap.size W' w' from
              (Zla co W' (HBL.out W' b).l HLZ.out (by have:=(HBL.out W' b).l.ln;omega) h1 h2 (fun _=>HRO.out.2.1)).mono fun e w' ⟨v,he,⟨T',tc,hv,_,_⟩,hb⟩=>⟨T',tc,by rw[he,hv,htn,HRO.out.1],hb⟩))
            have HSR:=Zf (fun W' (b:Below w8.heap.size w8 W') A' c' (h1:Ints W' W'.heap.size A' zs) (h2:A'=none->n=0/\c'=0) A3 c3 (h3:Ints W' W'.heap.size A3 pk) (h4:n2<=c3)=>(show Calls Zg 11 #[.agg #[.slice A n c,.slice F m d],.slice A' n c',.int .i64 co,.slice A3 n2 c3] W' fun e w'=>∃T' tc,e=.returned (.tuple #[.slice T' tu tc,.int .i64 st,.int .i64 0])/\Below W'.heap.size W' w' from by
              rw[<-HMC.out];exact(Zls (m:=mc) W' ((HTW.out _ (HB08.out.trans (b.mono HB08.out.size)))) (HBL.out W' b).l HLZ.out (by have:=(HBL.out W' b).l.ln;omega) h1 h2 HLP.out (by omega) h3 h4 (by rw[HMC.out];exact HRO.out.1) HRO.out.2.1).mono fun e w' ⟨v,he,⟨T',tc,hv,_,_⟩,hb⟩=>⟨T',tc,by rw[he,hv,htu,hst],hb⟩))
            have hdt:(tn:Int)<=T.deadline:=by rw[htn];exact HRO.out.2.2.1
            have hdu:(tu:Int)<=T.deadline:=by rw[htu];exact HRO.out.2.2.2 pk
            have hnn:n<=400:=(HBL.out _ HN.out.bel).l.ln;clear htn htu hst HRO HRUN;refine ZaO [99,100,101,102,103,104,105,98,106,107,15,16] [] [] (by kernel_rfl) (by kernel_rfl) (by kernel_rfl) (by intro d hd;simp at hd⊢;omega) (MtN w8 gN n cN W zs) (ZoR gL A n c F m d gN cN zs co tn)
              (fun z z' h hb=>h.next hb) (ZfK gL A n c F m d gN cN zs co tn) (HN.out.next (Zl _ _).drew) (fun p hp v w hv=>by cases hp) (fun kq hkq=>by simp at hkq) ?hstep ?hend
            case hstep=>
              intro kq o ho hw a w hI hA hd K hK;obtain⟨ρ,hρ⟩:∃ρ,a.eval=ρ:=⟨_,rfl⟩;rw[hρ]at hA hd
              match kq,ho with
              | 0, ho =>cases ho;exact Zab hK hρ (.pointer (some ⟨gL,0,none⟩)) (by have h:=hA.tmp 11 (by decide);simp[Yae,h,go_sem]) rfl
              | 1, ho =>
                cases ho;have f0:(ρ (.tmp 99))=.pointer (some ⟨gL,0,none⟩):=hd ⟨0,.data⟩ (by simp) (by rfl)
                have q0:=(HBL.out w hI.bel).r.cell (j:=0) rfl;have q1:=(HBL.out w hI.bel).r.cell (j:=1) rfl;exact Zab hK hρ (.agg #[.slice A n c,.slice F m d]) (by simp[Yae,f0,q0,q1,go_sem]) rfl
              | 2, ho =>cases ho;exact ZaZ hK hρ (.slice (some ⟨w.heap.size,0,none⟩) 0 0) (w.alloc (.cells #[] 3)) (by simp[Yae,go_sem]) ⟨w.heap.size,rfl,Yak w _⟩ (Zaa _)
              | 3, ho =>cases ho;exact Zab hK hρ (.slice (some ⟨gN,0,none⟩) n cN) (by have h:=hA.tmp 13 (by decide);simp[Yae,h,go_sem]) rfl
              | 4, ho =>
                cases ho;have f2:IntNew w (ρ (.tmp 101)):=hd ⟨2,.data⟩ (by simp) (by rfl);have f3:(ρ (.tmp 102))=.slice (some ⟨gN,0,none⟩) n cN:=hd ⟨3,.data⟩ (by simp) (by rfl);obtain⟨yv,hyv⟩:∃yv,ρ (.tmp 101)=yv:=⟨_,rfl⟩;rw[hyv]at f2;obtain⟨A',c',w',hr,ho,hc,hn,hb⟩:=ZbM f2 HLZ.out (by omega) hI.own.ints (fun e=>by cases e)
                exact ZaZ hK hρ _ w' (ZbB (.tmp 101) (.tmp 102) 22 _ _ rfl hyv f3 hr) ⟨A',c',rfl,ho,hc,hn⟩ hb
              | 5, ho =>cases ho;exact Zab hK hρ (.int .i64 co) (by have h:=hA.tmp 9 (by decide);simp[Yae,h,go_sem]) rfl
              | 6, ho =>
                cases ho;have f1:(ρ (.tmp 100))=(.agg #[.slice A n c,.slice F m d]):=hd ⟨1,.data⟩ (by simp) (by rfl);have f4:∃A' c',(ρ (.tmp 103))=.slice A' n c'/\OwnI w 0 (.slice A' n c') zs/\n<=c'/\(A'=none->n=0/\c'=0):=hd ⟨4,.data⟩ (by simp) (by rfl);have f5:(ρ (.tmp 104))=.int .i64 co:=hd ⟨5,.data⟩ (by simp) (by rfl)
                obtain⟨A',c',f4,ho,hc,hn⟩:=f4;exact ZaU hK hρ 36 _ _ #[.agg #[.slice A n c,.slice F m d],.slice A' n c',.int .i64 co] rfl (by simp only[ZW,ZM,Yd,f1,f4,f5]) (Za1 func36 (by kernel_rfl) rfl) ((HLR.out w hI.bel A' c' ho.ints hn).mono fun e w' ⟨T',tc,he,hb⟩=>⟨_,he,⟨T',tc,rfl⟩,hb⟩)
              | 7, ho =>
                cases ho;have f6:∃T' tc,(ρ (.tmp 105))=.tuple #[.slice T' tn tc,.int .i64 0]:=hd ⟨6,.data⟩ (by simp) (by rfl)
                obtain⟨T',tc,e⟩:=f6;exact Zab hK hρ _ (by simp[Yae,e,go_sem]) ⟨T',tc,rfl⟩
              | 8, ho =>
                cases ho;have f7:∃T' tc,(ρ (.tmp 98))=.tuple #[.slice T' tn tc,.int .i64 0]:=hd ⟨7,.data⟩ (by simp) (by rfl)
                obtain⟨T',tc,e⟩:=f7;exact Zab hK hρ (.slice T' tn tc) (by simp[Yae,e,go_sem]) ⟨T',tc,rfl⟩
              | 9, ho =>
                cases ho;have f7:∃T' tc,(ρ (.tmp 98))=.tuple #[.slice T' tn tc,.int .i64 0]:=hd ⟨7,.data⟩ (by simp) (by rfl)
                obtain⟨T',tc,e⟩:=f7;exact Zab hK hρ (.int .i64 0) (by simp[Yae,e,go_sem]) rfl
              | 10, ho =>
                cases ho;have f8:∃T' tc,(ρ (.tmp 106))=.slice T' tn tc:=hd ⟨8,.data⟩ (by simp) (by rfl)
                obtain⟨T',tc,e⟩:=f8;exact Zab hK hρ (.slice T' tn tc) (by simp[Yae,e,go_sem]) ⟨T',tc,rfl⟩
              | 11, ho =>
                cases ho;have f9:(ρ (.tmp 107))=.int .i64 0:=hd ⟨9,.data⟩ (by simp) (by rfl)
                exact Zab hK hρ (.int .i64 0) (by simp[Yae,f9,hA.const,go_sem]) rfl
              |kq+12,ho=>simp at ho
            case hend=>
              intro vals x13 hI hF13;obtain⟨T',tc,f10⟩:=hF13 10 (by decide);have f11:vals 16=.int .i64 0:=hF13 11 (by decide);simp only[ZI,ZG]at f10;have HN:=Zf hI;clear hF13 hI;simp only[f10,f11,ZaW,Zba,Z7,Yc,YD,Yq,Yw,YC,YA,cond_true,cond_false,Yg,YE];go_wp2_with fail;refine ZaO [109,110,111,112,113,114,115,116,117,118,108,119,120,121,17,18,19] [] [] (by kernel_rfl) (by kernel_rfl) (by kernel_rfl) (by intro d hd;simp at hd⊢;omega) (MtN w8 gN n cN W zs) (ZoS gL A n c F m d gN cN zs co A2 n2 c2 pk tu st)
                (fun z z' h hb=>h.next hb) (ZfL gL A n c F m d gN cN zs co A2 n2 c2 pk tu st) (HN.out.next (Zl _ _).drew) (fun p hp v w hv=>by cases hp) (fun kq hkq=>by simp at hkq) ?hstep ?hend
              case hstep=>
                intro kq o ho hw a w hI hA hd K hK;obtain⟨ρ,hρ⟩:∃ρ,a.eval=ρ:=⟨_,rfl⟩;rw[hρ]at hA hd
                match kq,ho with
                | 0, ho =>cases ho;exact Zab hK hρ (.pointer (some ⟨gL,0,none⟩)) (by have h:=hA.tmp 11 (by decide);simp[Yae,h,go_sem]) rfl
                | 1, ho =>
                  cases ho;have f0:(ρ (.tmp 109))=.pointer (some ⟨gL,0,none⟩):=hd ⟨0,.data⟩ (by simp) (by rfl)
                  have q0:=(HBL.out w hI.bel).r.cell (j:=0) rfl;have q1:=(HBL.out w hI.bel).r.cell (j:=1) rfl;exact Zab hK hρ (.agg #[.slice A n c,.slice F m d]) (by simp[Yae,f0,q0,q1,go_sem]) rfl
                | 2, ho =>cases ho;exact ZaZ hK hρ (.slice (some ⟨w.heap.size,0,none⟩) 0 0) (w.alloc (.cells #[] 3)) (by simp[Yae,go_sem]) ⟨w.heap.size,rfl,Yak w _⟩ (Zaa _)
                | 3, ho =>cases ho;exact Zab hK hρ (.slice (some ⟨gN,0,none⟩) n cN) (by have h:=hA.tmp 13 (by decide);simp[Yae,h,go_sem]) rfl
                | 4, ho =>
                  cases ho;have f2:IntNew w (ρ (.tmp 111)):=hd ⟨2,.data⟩ (by simp) (by rfl);have f3:(ρ (.tmp 112))=.slice (some ⟨gN,0,none⟩) n cN:=hd ⟨3,.data⟩ (by simp) (by rfl);obtain⟨yv,hyv⟩:∃yv,ρ (.tmp 111)=yv:=⟨_,rfl⟩;rw[hyv]at f2;obtain⟨A',c',w',hr,ho,hc,hn,hb⟩:=ZbM f2 HLZ.out (by omega) hI.own.ints (fun e=>by cases e)
                  exact ZaZ hK hρ _ w' (ZbB (.tmp 111) (.tmp 112) 22 _ _ rfl hyv f3 hr) ⟨A',c',rfl,ho,hc,hn⟩ hb
                | 5, ho =>cases ho;exact Zab hK hρ (.int .i64 co) (by have h:=hA.tmp 9 (by decide);simp[Yae,h,go_sem]) rfl
                | 6, ho =>cases ho;exact ZaZ hK hρ (.slice (some ⟨w.heap.size,0,none⟩) 0 0) (w.alloc (.cells #[] 3)) (by simp[Yae,go_sem]) ⟨w.heap.size,rfl,Yak w _⟩ (Zaa _)
                | 7, ho =>cases ho;exact Zab hK hρ (.slice A2 n2 c2) (by have h:=hA.tmp 2 (by decide);simp[Yae,h,go_sem]) rfl
                | 8, ho =>
                  cases ho;have f6:IntNew w (ρ (.tmp 115)):=hd ⟨6,.data⟩ (by simp) (by rfl);have f7:(ρ (.tmp 116))=.slice A2 n2 c2:=hd ⟨7,.data⟩ (by simp) (by rfl);obtain⟨yv,hyv⟩:∃yv,ρ (.tmp 115)=yv:=⟨_,rfl⟩;rw[hyv]at f6;obtain⟨A',c',w',hr,ho,hc,hn,hb⟩:=ZbM f6 HLP.out (by omega) (HPI.out w (HB08.out.trans (hI.bel.mono HB08.out.size))) HPN.out
                  exact ZaZ hK hρ _ w' (ZbB (.tmp 115) (.tmp 116) 22 _ _ rfl hyv f7 hr) ⟨A',c',rfl,ho,hc,hn⟩ hb
                | 9, ho =>
                  cases ho;have f1:(ρ (.tmp 110))=(.agg #[.slice A n c,.slice F m d]):=hd ⟨1,.data⟩ (by simp) (by rfl);have f4:∃A' c',(ρ (.tmp 113))=.slice A' n c'/\OwnI w 0 (.slice A' n c') zs/\n<=c'/\(A'=none->n=0/\c'=0):=hd ⟨4,.data⟩ (by simp) (by rfl);have f5:(ρ (.tmp 114))=.int .i64 co:=hd ⟨5,.data⟩ (by simp) (by rfl);have f8:∃A' c',(ρ (.tmp 117))=.slice A' n2 c'/\OwnI w 0 (.slice A' n2 c') pk/\n2<=c'/\(A'=none->n2=0/\c'=0):=hd ⟨8,.data⟩ (by simp) (by rfl)
                  obtain⟨A',c',f4,ho,hc,hn⟩:=f4;obtain⟨A3,c3,f8,ho3,hc3,hn3⟩:=f8;exact ZaU hK hρ 11 _ _ #[.agg #[.slice A n c,.slice F m d],.slice A' n c',.int .i64 co,.slice A3 n2 c3] rfl (by simp only[ZW,ZM,Yd,f1,f4,f5,f8]) (Za1 func11 (by kernel_rfl) rfl) ((HSR.out w hI.bel A' c' ho.ints hn A3 c3 ho3.ints hc3).mono fun e w' ⟨T',tc,he,hb⟩=>⟨_,he,⟨T',tc,rfl⟩,hb⟩)
                | 10, ho =>
                  cases ho;have f9:∃T' tc,(ρ (.tmp 118))=.tuple #[.slice T' tu tc,.int .i64 st,.int .i64 0]:=hd ⟨9,.data⟩ (by simp) (by rfl)
                  obtain⟨T',tc,e⟩:=f9;exact Zab hK hρ _ (by simp[Yae,e,go_sem]) ⟨T',tc,rfl⟩
                | 11, ho =>
                  cases ho;have f10:∃T' tc,(ρ (.tmp 108))=.tuple #[.slice T' tu tc,.int .i64 st,.int .i64 0]:=hd ⟨10,.data⟩ (by simp) (by rfl)
                  obtain⟨T',tc,e⟩:=f10;exact Zab hK hρ (.slice T' tu tc) (by simp[Yae,e,go_sem]) ⟨T',tc,rfl⟩
                | 12, ho =>
                  cases ho;have f10:∃T' tc,(ρ (.tmp 108))=.tuple #[.slice T' tu tc,.int .i64 st,.int .i64 0]:=hd ⟨10,.data⟩ (by simp) (by rfl)
                  obtain⟨T',tc,e⟩:=f10;exact Zab hK hρ (.int .i64 st) (by simp[Yae,e,go_sem]) rfl
                | 13, ho =>
                  cases ho;have f10:∃T' tc,(ρ (.tmp 108))=.tuple #[.slice T' tu tc,.int .i64 st,.int .i64 0]:=hd ⟨10,.data⟩ (by simp) (by rfl)
                  obtain⟨T',tc,e⟩:=f10;exact Zab hK hρ (.int .i64 0) (by simp[Yae,e,go_sem]) rfl
                | 14, ho =>
                  cases ho;have f11:∃T' tc,(ρ (.tmp 119))=.slice T' tu tc:=hd ⟨11,.data⟩ (by simp) (by rfl)
                  obtain⟨T',tc,e⟩:=f11;exact Zab hK hρ (.slice T' tu tc) (by simp[Yae,e,go_sem]) ⟨T',tc,rfl⟩
                | 15, ho =>
                  cases ho;have f12:(ρ (.tmp 120))=.int .i64 st:=hd ⟨12,.data⟩ (by simp) (by rfl)
                  exact Zab hK hρ (.int .i64 st) (by simp[Yae,f12,hA.const,go_sem]) rfl
                | 16, ho =>
                  cases ho;have f13:(ρ (.tmp 121))=.int .i64 0:=hd ⟨13,.data⟩ (by simp) (by rfl)
                  exact Zab hK hρ (.int .i64 0) (by simp[Yae,f13,hA.const,go_sem]) rfl
                |kq+17,ho=>simp at ho
              case hend=>intro vals4 x14 hI hF14;obtain⟨T2,tc2,f14⟩:=hF14 14 (by decide);have f16:vals4 19=.int .i64 0:=hF14 16 (by decide);simp only[ZI,ZG]at f14;have B14:=Zf (HBL.out _ hI.bel);clear hF14 hI;obtain⟨k1,k2,k3,k4,k5,k6⟩:=B14.out.b.b.c;simp only[f14,f16,ZaW,Zba,Z7,Yc,YD,Yq,Yw,YC,YA,cond_true,cond_false,Yg,YE];go_wp2;go_ret;exact⟨rfl,B14.out.b.b.bel⟩
    · have hfb:(fa !=0)=true:=bne_iff_ne.mpr hf;subst h0;clear hOK hu hu2 hx hfa hco;go_enter func7,ntmps7;go_wp2_with fail;refine(ZaT _ (HTW.out _ B0.out.bel)).mono ?_;rintro e w1 ⟨rfl,b1⟩;have B1:=Zf (B0.out.next b1);clear b1;obtain⟨k1,k2,k3,k4,k5,k6⟩:=B1.out.c;go_wp2_with fail;refine(ZlK B1.out.d.t F1.out).mono ?_;rintro e w2 ⟨rfl,b2⟩;have B2:=Zf (B1.out.next b2);clear b2 k1 k2 k3 k4 k5 k6;obtain⟨k1,k2,k3,k4,k5,k6⟩:=B2.out.c;go_wp2_with fail;refine(ZmZ B2.out.d).mono ?_;rintro e w3 ⟨s',rfl,hs',b3⟩;have B3:=Zf (B2.out.next b3);have HS:=Zf hs';clear b3 hs' k1 k2 k3 k4 k5 k6;go_wp2_with fail;refine(CL.out _ _ HS.out).mono ?_;rintro e w4 ⟨rfl,b4⟩;obtain⟨w5,hw5⟩:∃w5,w5=w4.alloc (.cells #[.int .i64 ut,.int .i64 ul,.int .i64 um,.int .i64 ud,.int .i64 up] 67):=⟨_,rfl⟩;have hBL:=BxSs.start (u:=⟨ut,ul,um,ud,up⟩) (B3.out.next b4);dsimp only at hBL;obtain⟨⟨d0,d1⟩,d2,d3,d4⟩:=hBL.cells;dsimp only at d0 d1 d2 d3 d4;rw[<-hw5]at hBL;have HW:=Zf hw5;have B5:=Zf hBL;clear hw5 hBL b4 B0 B1 B2 B3 HS F1;go_wp2_with fail;rw[<-HW.out];clear HW d0 d1 d2 d3 d4;refine(KC.out _ B5.out.b.bel).mono ?_;rintro e w6 ⟨rfl,b6⟩;have B6:=Zf (B5.out.next b6);clear b6 B5 KC;obtain⟨⟨d0,d1⟩,d2,d3,d4⟩:=B6.out.cells;dsimp only at d0 d1 d2 d3 d4;go_wp2;go_ret;exact⟨rfl,B6.out.b.bel⟩
  · obtain⟨fa,hfa⟩:∃f,f=Zcu u:=⟨_,rfl⟩;obtain⟨co,hco⟩:∃f,f=ZbW u:=⟨_,rfl⟩;rw[<-hfa,<-hco]at KC;have h0b:(x !=0)=true:=bne_iff_ne.mpr h0;clear hu hx hfa hco;obtain⟨ut,ul,um,ud,up⟩:=u;unfold Shp.val at CL KC;dsimp only at CL KC;go_enter func7,ntmps7;go_wp2_with fail;refine(ZaT _ (HTW.out _ B0.out.bel)).mono ?_;rintro e w1 ⟨rfl,b1⟩;have B1:=Zf (B0.out.next b1);clear b1;obtain⟨k1,k2,k3,k4,k5,k6⟩:=B1.out.c;go_wp2_with fail;refine(ZlK B1.out.d.t F1.out).mono ?_;rintro e w2 ⟨rfl,b2⟩;have B2:=Zf (B1.out.next b2);clear b2 k1 k2 k3 k4 k5 k6;obtain⟨k1,k2,k3,k4,k5,k6⟩:=B2.out.c;go_wp2_with fail;refine(ZmZ B2.out.d).mono ?_;rintro e w3 ⟨s',rfl,hs',b3⟩;have B3:=Zf (B2.out.next b3);have HS:=Zf hs';clear b3 hs' k1 k2 k3 k4 k5 k6;go_wp2_with fail;refine(CL.out _ _ HS.out).mono ?_;rintro e w4 ⟨rfl,b4⟩;obtain⟨w5,hw5⟩:∃w5,w5=w4.alloc (.cells #[.int .i64 ut,.int .i64 ul,.int .i64 um,.int .i64 ud,.int .i64 up] 67):=⟨_,rfl⟩;have hBL:=BxSs.start (u:=⟨ut,ul,um,ud,up⟩) (B3.out.next b4);dsimp only at hBL;obtain⟨⟨d0,d1⟩,d2,d3,d4⟩:=hBL.cells;dsimp only at d0 d1 d2 d3 d4;rw[<-hw5]at hBL;have HW:=Zf hw5;have B5:=Zf hBL;clear hw5 hBL b4 B0 B1 B2 B3 HS F1;go_wp2_with fail;rw[<-HW.out];clear HW d0 d1 d2 d3 d4;refine(KC.out _ B5.out.b.bel).mono ?_;rintro e w6 ⟨rfl,b6⟩;have B6:=Zf (B5.out.next b6);clear b6 B5 KC;obtain⟨⟨d0,d1⟩,d2,d3,d4⟩:=B6.out.cells;dsimp only at d0 d1 d2 d3 d4;go_wp2;go_ret;exact⟨rfl,B6.out.b.bel⟩
theorem ZfM(w0:World){s:Sh}{T:Task}{A1:Option Addr}{n1 c1:Nat}{ls:List Int}{A2:Option Addr}{n2 c2:Nat}{pk:List Int}(h:InD w0 s T)(g1:InN w0 A1 n1 c1 ls)(g2:InN w0 A2 n2 c2 pk)(hT:DTab w0):
  Calls Zg 7 #[s.arg T.period T.deadline,.slice A1 n1 c1,.slice A2 n2 c2] w0 fun e w'=>e=.returned (.bool true)/\Below w0.heap.size w0 w':=by
 by_cases f:FewD T
 ·by_cases hl: 60 < n1 \/ 300 < n2
  ·exact ZlA w0 h hT f hl
  ·exact ZlB w0 h g1 g2 hT f (by omega) (by omega)
 ·exact Zlz w0 h hT f
end Go.Proofs.YtfahabphncmbfaaGreatDoor
