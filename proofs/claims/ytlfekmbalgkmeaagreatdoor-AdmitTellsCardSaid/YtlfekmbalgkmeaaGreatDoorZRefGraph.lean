import Derived.Test.YtlfekmbalgkmeaaGreatDoorZM41
import Derived.Test.YtlfekmbalgkmeaaGreatDoorZM9
set_option linter.unusedSimpArgs false
set_option linter.unnecessarySimpa false
set_option linter.unusedVariables false
set_option maxRecDepth 100000
set_option maxHeartbeats 64000000
namespace Go.Proofs.YtlfekmbalgkmeaaGreatDoor
open Go Go.RowKit
theorem idx_eqE8{ρ:Operand->Value}{o:Oper}{x y:Operand}{lb lo n c k:Nat}{w:World}(ho:o.op= .indexAddr 53 x y)(hx:ρ x= .slice (some ⟨lb,lo,none⟩) n c)(hy:ρ y= .int .i64 (k:Int))(hk:k<n):
  (execOp ρ o).run Tryz.prog w= .ok (.value (.pointer (some ⟨lb,lo+k * 2,none⟩))) w:=by
 have hk2:(k:Int)<(n:Int):=by omega
 simp[execOp,ho,hx,hy,hk2,go_sem]
theorem idx_eqU8{ρ:Operand->Value}{o:Oper}{x y:Operand}{lb lo n c k:Nat}{w:World}(ho:o.op= .indexAddr 54 x y)(hx:ρ x= .slice (some ⟨lb,lo,none⟩) n c)(hy:ρ y= .int .i64 (k:Int))(hk:k<n):
  (execOp ρ o).run Tryz.prog w= .ok (.value (.pointer (some ⟨lb,lo+k * 3,none⟩))) w:=by
 have hk2:(k:Int)<(n:Int):=by omega
 simp[execOp,ho,hx,hy,hk2,go_sem]
def PhiGa(P':Option Addr)(np pc:Nat)(E':Option Addr)(ne ec:Nat)(Fu:Option Addr)(nf fc:Nat)(R':Option Addr)(nr rc:Nat)(T:Task)(vE:Value)(x i:Nat)(ea eb:Int):Nat->Value->World->Prop
 |0,v,w=>v=vE
 |1,v,w=>v=(⟨P',np,pc,E',ne,ec,Fu,nf,fc,R',nr,rc⟩:Sh).arg T.period T.deadline
 |2,v,w=>v= .int .i64 (x:Int)
 |3,v,w=>v= .int .i64 (firN T.futures x:Int)
 |4,v,w=>v= .int .i64 (i:Int)
 |5,v,w=>v= .int .i64 eb
 |6,v,w=>v= .int .i64 ea
 |7,v,w=>v=(⟨P',np,pc,E',ne,ec,Fu,nf,fc,R',nr,rc⟩:Sh).arg T.period T.deadline
 |8,v,w=>v= .int .i64 (x:Int)
 |9,v,w=>v= .int .i64 (firN T.futures x:Int)
 |10,v,w=>v= .int .i64 (i:Int)
 |11,v,w=>v= .int .i64 eb
 |12,v,w=>v= .agg #[.int .i64 ea,.int .i64 eb]
 |13,v,w=>OwnEd ea eb vE v w
 |_,_,_=>True
theorem phiGa_below(P':Option Addr)(np pc:Nat)(E':Option Addr)(ne ec:Nat)(Fu:Option Addr)(nf fc:Nat)(R':Option Addr)(nr rc:Nat)(T:Task)(vE:Value)(x i:Nat)(ea eb:Int): ∀kq v w w',PhiGa P' np pc E' ne ec Fu nf fc R' nr rc T vE x i ea eb kq v w->Below w.heap.size w w'->PhiGa P' np pc E' ne ec Fu nf fc R' nr rc T vE x i ea eb kq v w':=by
 intro kq v w w' h hb
 match kq,h with
 |0,h=>exact h
 |1,h=>exact h
 |2,h=>exact h
 |3,h=>exact h
 |4,h=>exact h
 |5,h=>exact h
 |6,h=>exact h
 |7,h=>exact h
 |8,h=>exact h
 |9,h=>exact h
 |10,h=>exact h
 |11,h=>exact h
 |12,h=>exact h
 |13,h=>exact OwnEd.below h hb
 |kq+14,h=>exact trivial
def PhiGb(P':Option Addr)(np pc:Nat)(E':Option Addr)(ne ec:Nat)(Fu:Option Addr)(nf fc:Nat)(R':Option Addr)(nr rc:Nat)(T:Task)(vE:Value)(w0:World)(j xb xo m n:Nat)(ea eb:Int):Nat->Value->World->Prop
 |0,v,w=>v=vE
 |1,v,w=>v=(⟨P',np,pc,E',ne,ec,Fu,nf,fc,R',nr,rc⟩:Sh).arg T.period T.deadline
 |2,v,w=>v= .pointer (some ⟨w0.heap.size,3,none⟩)
 |3,v,w=>v= .slice E' ne ec
 |4,v,w=>v= .int .i64 (j:Int)
 |5,v,w=>v= .pointer (some ⟨xb,xo+j * 2,none⟩)
 |6,v,w=>v= .pointer (some ⟨xb,xo+j * 2,none⟩)
 |7,v,w=>v= .int .i64 (m:Int)
 |8,v,w=>v= .int .i64 (lasN T.futures m:Int)
 |9,v,w=>v=(⟨P',np,pc,E',ne,ec,Fu,nf,fc,R',nr,rc⟩:Sh).arg T.period T.deadline
 |10,v,w=>v= .pointer (some ⟨w0.heap.size,3,none⟩)
 |11,v,w=>v= .slice E' ne ec
 |12,v,w=>v= .int .i64 (j:Int)
 |13,v,w=>v= .pointer (some ⟨xb,xo+j * 2,none⟩)
 |14,v,w=>v= .pointer (some ⟨xb,xo+j * 2+1,none⟩)
 |15,v,w=>v= .int .i64 (n:Int)
 |16,v,w=>v= .int .i64 (firN T.futures n:Int)
 |17,v,w=>v= .agg #[.int .i64 ea,.int .i64 eb]
 |18,v,w=>OwnEd ea eb vE v w
 |_,_,_=>True
theorem phiGb_below(P':Option Addr)(np pc:Nat)(E':Option Addr)(ne ec:Nat)(Fu:Option Addr)(nf fc:Nat)(R':Option Addr)(nr rc:Nat)(T:Task)(vE:Value)(w0:World)(j xb xo m n:Nat)(ea eb:Int): ∀kq v w w',PhiGb P' np pc E' ne ec Fu nf fc R' nr rc T vE w0 j xb xo m n ea eb kq v w->Below w.heap.size w w'->PhiGb P' np pc E' ne ec Fu nf fc R' nr rc T vE w0 j xb xo m n ea eb kq v w':=by
 intro kq v w w' h hb
 match kq,h with
 |0,h=>exact h
 |1,h=>exact h
 |2,h=>exact h
 |3,h=>exact h
 |4,h=>exact h
 |5,h=>exact h
 |6,h=>exact h
 |7,h=>exact h
 |8,h=>exact h
 |9,h=>exact h
 |10,h=>exact h
 |11,h=>exact h
 |12,h=>exact h
 |13,h=>exact h
 |14,h=>exact h
 |15,h=>exact h
 |16,h=>exact h
 |17,h=>exact h
 |18,h=>exact OwnEd.below h hb
 |kq+19,h=>exact trivial
def PhiGc(P':Option Addr)(np pc:Nat)(E':Option Addr)(ne ec:Nat)(Fu:Option Addr)(nf fc:Nat)(R':Option Addr)(nr rc:Nat)(T:Task)(vE:Value)(w0:World)(j xb xo m:Nat)(ea eb:Int):Nat->Value->World->Prop
 |0,v,w=>v=vE
 |1,v,w=>v=(⟨P',np,pc,E',ne,ec,Fu,nf,fc,R',nr,rc⟩:Sh).arg T.period T.deadline
 |2,v,w=>v= .pointer (some ⟨w0.heap.size,4,none⟩)
 |3,v,w=>v= .slice Fu nf fc
 |4,v,w=>v= .int .i64 (j:Int)
 |5,v,w=>v= .pointer (some ⟨xb,xo+j * 3,none⟩)
 |6,v,w=>v= .pointer (some ⟨xb,xo+j * 3,none⟩)
 |7,v,w=>v= .int .i64 (m:Int)
 |8,v,w=>v= .int .i64 (lasN T.futures m:Int)
 |9,v,w=>v=(⟨P',np,pc,E',ne,ec,Fu,nf,fc,R',nr,rc⟩:Sh).arg T.period T.deadline
 |10,v,w=>v= .pointer (some ⟨w0.heap.size,4,none⟩)
 |11,v,w=>v= .slice Fu nf fc
 |12,v,w=>v= .int .i64 (j:Int)
 |13,v,w=>v= .pointer (some ⟨xb,xo+j * 3,none⟩)
 |14,v,w=>v= .agg #[.int .i64 (futAt T.futures j).1,.int .i64 (futAt T.futures j).2.1,.int .i64 (futAt T.futures j).2.2]
 |15,v,w=>v= .int .i64 (begN T.futures j:Int)
 |16,v,w=>v= .agg #[.int .i64 ea,.int .i64 eb]
 |17,v,w=>OwnEd ea eb vE v w
 |_,_,_=>True
theorem phiGc_below(P':Option Addr)(np pc:Nat)(E':Option Addr)(ne ec:Nat)(Fu:Option Addr)(nf fc:Nat)(R':Option Addr)(nr rc:Nat)(T:Task)(vE:Value)(w0:World)(j xb xo m:Nat)(ea eb:Int): ∀kq v w w',PhiGc P' np pc E' ne ec Fu nf fc R' nr rc T vE w0 j xb xo m ea eb kq v w->Below w.heap.size w w'->PhiGc P' np pc E' ne ec Fu nf fc R' nr rc T vE w0 j xb xo m ea eb kq v w':=by
 intro kq v w w' h hb
 match kq,h with
 |0,h=>exact h
 |1,h=>exact h
 |2,h=>exact h
 |3,h=>exact h
 |4,h=>exact h
 |5,h=>exact h
 |6,h=>exact h
 |7,h=>exact h
 |8,h=>exact h
 |9,h=>exact h
 |10,h=>exact h
 |11,h=>exact h
 |12,h=>exact h
 |13,h=>exact h
 |14,h=>exact h
 |15,h=>exact h
 |16,h=>exact h
 |17,h=>exact OwnEd.below h hb
 |kq+18,h=>exact trivial
def PhiGd(P':Option Addr)(np pc:Nat)(E':Option Addr)(ne ec:Nat)(Fu:Option Addr)(nf fc:Nat)(R':Option Addr)(nr rc:Nat)(T:Task)(vE:Value)(gq:Nat)(Ai:Option Addr)(n1 c1 j xb xo m at':Nat)(ea eb:Int):Nat->Value->World->Prop
 |0,v,w=>v=vE
 |1,v,w=>v=(⟨P',np,pc,E',ne,ec,Fu,nf,fc,R',nr,rc⟩:Sh).arg T.period T.deadline
 |2,v,w=>v= .pointer (some ⟨gq,0,none⟩)
 |3,v,w=>v= .slice Ai n1 c1
 |4,v,w=>v= .int .i64 (j:Int)
 |5,v,w=>v= .pointer (some ⟨xb,xo+j,none⟩)
 |6,v,w=>v= .int .i64 (m:Int)
 |7,v,w=>v= .int .i64 (lasN T.futures m:Int)
 |8,v,w=>v= .int .i64 (at':Int)
 |9,v,w=>v= .agg #[.int .i64 ea,.int .i64 eb]
 |10,v,w=>OwnEd ea eb vE v w
 |_,_,_=>True
theorem phiGd_below(P':Option Addr)(np pc:Nat)(E':Option Addr)(ne ec:Nat)(Fu:Option Addr)(nf fc:Nat)(R':Option Addr)(nr rc:Nat)(T:Task)(vE:Value)(gq:Nat)(Ai:Option Addr)(n1 c1 j xb xo m at':Nat)(ea eb:Int): ∀kq v w w',PhiGd P' np pc E' ne ec Fu nf fc R' nr rc T vE gq Ai n1 c1 j xb xo m at' ea eb kq v w->Below w.heap.size w w'->PhiGd P' np pc E' ne ec Fu nf fc R' nr rc T vE gq Ai n1 c1 j xb xo m at' ea eb kq v w':=by
 intro kq v w w' h hb
 match kq,h with
 |0,h=>exact h
 |1,h=>exact h
 |2,h=>exact h
 |3,h=>exact h
 |4,h=>exact h
 |5,h=>exact h
 |6,h=>exact h
 |7,h=>exact h
 |8,h=>exact h
 |9,h=>exact h
 |10,h=>exact OwnEd.below h hb
 |kq+11,h=>exact trivial
def PhiGe(P':Option Addr)(np pc:Nat)(E':Option Addr)(ne ec:Nat)(Fu:Option Addr)(nf fc:Nat)(R':Option Addr)(nr rc:Nat)(T:Task)(vE:Value)(gq:Nat)(Ao:Option Addr)(n2 c2 j xb xo n at':Nat)(ea eb:Int):Nat->Value->World->Prop
 |0,v,w=>v=vE
 |1,v,w=>v= .int .i64 (at':Int)
 |2,v,w=>v=(⟨P',np,pc,E',ne,ec,Fu,nf,fc,R',nr,rc⟩:Sh).arg T.period T.deadline
 |3,v,w=>v= .pointer (some ⟨gq,1,none⟩)
 |4,v,w=>v= .slice Ao n2 c2
 |5,v,w=>v= .int .i64 (j:Int)
 |6,v,w=>v= .pointer (some ⟨xb,xo+j,none⟩)
 |7,v,w=>v= .int .i64 (n:Int)
 |8,v,w=>v= .int .i64 (firN T.futures n:Int)
 |9,v,w=>v= .agg #[.int .i64 ea,.int .i64 eb]
 |10,v,w=>OwnEd ea eb vE v w
 |_,_,_=>True
theorem phiGe_below(P':Option Addr)(np pc:Nat)(E':Option Addr)(ne ec:Nat)(Fu:Option Addr)(nf fc:Nat)(R':Option Addr)(nr rc:Nat)(T:Task)(vE:Value)(gq:Nat)(Ao:Option Addr)(n2 c2 j xb xo n at':Nat)(ea eb:Int): ∀kq v w w',PhiGe P' np pc E' ne ec Fu nf fc R' nr rc T vE gq Ao n2 c2 j xb xo n at' ea eb kq v w->Below w.heap.size w w'->PhiGe P' np pc E' ne ec Fu nf fc R' nr rc T vE gq Ao n2 c2 j xb xo n at' ea eb kq v w':=by
 intro kq v w w' h hb
 match kq,h with
 |0,h=>exact h
 |1,h=>exact h
 |2,h=>exact h
 |3,h=>exact h
 |4,h=>exact h
 |5,h=>exact h
 |6,h=>exact h
 |7,h=>exact h
 |8,h=>exact h
 |9,h=>exact h
 |10,h=>exact OwnEd.below h hb
 |kq+11,h=>exact trivial
theorem ints_at7{w:World}{B b off q:Nat}{zs:List Int}{y:Int}(h:Ints w B (some ⟨b,off,none⟩) zs)(hq:zs[q]? =some y):w.cell? ⟨b,off+q,none⟩=some (.int .i64 y):=by
 obtain⟨b',off',y',e,_,hy,hc⟩:=h.at_ (k:=q) (List.getElem?_eq_some_iff.mp hq).1
 injection e with e;injection e with e1 e2;subst e1 e2;rw[hq]at hy;rw[Option.some.inj hy];exact hc
theorem OwnI.ints'{w:World}{b n c:Nat}{v:Value}{A:Option Addr}{zs:List Int}(h:OwnI w b v zs)(hv:v= .slice A n c):Ints w w.heap.size A zs:=by
 obtain⟨A',c',e,hI⟩:=OwnI.slice h;rw[hv]at e;injection e with e _ _;rw[e];exact hI
section
variable {s: Sh} {T: Task}
theorem rgraph_any(w0:World)(hD:IsD w0 s T)(hM:MayT T):
    Calls Tryz.prog 96 #[s.arg T.period T.deadline] w0 fun e w'=> ∃A1 n1 c1 A2 n2 c2 A3 n3 c3,e= .returned (.agg #[.slice A1 n1 c1, .slice A2 n2 c2, .slice A3 n3 c3])/\OwnI w' w0.heap.size (.slice A1 n1 c1) (lowW T)/\OwnE w' w0.heap.size (.slice A2 n2 c2) (lowE T)/\OwnP w' w0.heap.size (.slice A3 n3 c3) (lowP T)/\Below w0.heap.size w0 w':=by
  have G0:=Lib.hid (GrS.start w0 s T);have HISD:=Lib.hid (fun W (h:Below w0.heap.size w0 W)=>hD.below h)
  have HM:=Lib.hid hM;have HPL:=Lib.hid hD.t.hp;have hnp4:s.np<=400:=by have h1:=hD.few.np;have h2:=hD.t.hp;omega
  obtain⟨P',np,pc,E',ne,ec,Fu,nf,fc,R',nr,rc⟩:=s;simp only at G0 HPL hnp4;obtain⟨w4,hw4⟩: ∃w4,w4=(((w0.alloc (.cells #[.int .i64 T.period, .int .i64 T.deadline, .slice P' np pc, .slice E' ne ec, .slice Fu nf fc, .slice R' nr rc] 57)).alloc (.cells #[.slice none 0 0, .slice none 0 0, .slice none 0 0] 91)).alloc (.cells #[.slice none 0 0, .slice none 0 0, .slice none 0 0] 91)).alloc (.cells #[] 131):=⟨_,rfl⟩;rw[<-hw4]at G0;have HW:=Lib.hid hw4;clear hD hM hw4;go_enter Tryz.func96,Tryz.ntmps96;go_wp2;rw[<-HW.out];clear HW;go_loopw [4,5] (fun ve nv wr=> ∃(x:Nat) (vW vE vP vX:Value) (L:List Int),x<=np/\vE=ve/\nv= .int .i64 (x:Int)/\Hid (GrS w0 (⟨P',np,pc,E',ne,ec,Fu,nf,fc,R',nr,rc⟩:Sh) T (wPs T.futures T.parts x) (ePs T.futures x) (pPs T.futures x) vW vE vP vX L wr)) (fun _ nv _=>np - (intOf nv).toNat)
  case atStart=>exact⟨0,_,_,_,_,_,Nat.zero_le _,rfl,rfl,G0⟩
  case round=>
    obtain⟨x,vW,vE,vP,vX,L,hx,rfl,rfl,HB⟩:=hrel;clear G0;have t2:=HB.out.q.c.2.2.1;simp only at t2
    by_cases hlt:x<np
    · obtain⟨k,hk⟩: ∃k,(stepW 0 (endsL T.futures T.parts x)).length=k:=⟨_,rfl⟩;have HK:=Lib.hid hk;have hkn:k=nst T.futures x:=by rw[<-hk,stepW_len,endsL_len]
      have HKN:=Lib.hid hkn;have hxp:x<T.parts.length:=by rw[HPL.out];exact hlt
      have HXP:=Lib.hid hxp;have HIN:Hid (x<=T.parts.length):=Lib.hid (Nat.le_of_lt hxp);have hf36:firN T.futures x+k<=36:=by
        have h1:=firN_small HM.out (j:=x+1) hxp;rw[firN,<-hkn]at h1;exact h1
      have HWL:Hid ((wPs T.futures T.parts x).length=firN T.futures x/\(pPs T.futures x).length=firN T.futures x/\(ePs T.futures x).length+x=firN T.futures x):=Lib.hid ⟨wPs_len _ _ _,pPs_len _ _,ePs_len _ _⟩;obtain⟨f0,hf0⟩: ∃f,f=firN T.futures x:=⟨_,rfl⟩;rw[<-hf0]at hf36 HWL;have HF0:=Lib.hid hf0;clear hk hkn hxp hf0;have HB0:=HB;obtain⟨t0,t1,t2',t3,t4,t5⟩:=HB.out.q.c;simp only at t2' t3 t4 t5;go_wp2_with fail;refine(rsteps_any wr x (HISD.out _ HB.out.q.bel) HM.out HXP.out).mono ?_
      rintro e w5 ⟨A6,c6,rfl,hO6,b6⟩;have G5:=Lib.hid ((HB.out.next b6).list (side_new HB.out hO6));rw[HK.out]at G5⊢;clear hO6 b6 t0 t1 t2 t2' t3 t4 t5 HB HB0 vX L;obtain⟨L,hL⟩: ∃L,L=stepW 0 (endsL T.futures T.parts x):=⟨_,rfl⟩;rw[<-hL]at G5;have HL:=Lib.hid hL;clear hL;go_wp2;go_loopw [4,7] (fun ve iv wr=> ∃(i:Nat) (vW vE vP:Value) (W:List Int) (E P:List (Int×Int)),i<=k/\vE=ve/\iv= .int .i64 (i:Int)/\Hid (W=wPs T.futures T.parts x++L.take i/\E=ePs T.futures x++chainE (firN T.futures x) i/\P=pPs T.futures x++stepP x i)/\Hid (GrS w0 (⟨P',np,pc,E',ne,ec,Fu,nf,fc,R',nr,rc⟩:Sh) T W E P vW vE vP (.slice A6 k c6) L wr)) (fun _ iv _=>k - (intOf iv).toNat)
      case atStart=>exact⟨0,_,_,_,wPs T.futures T.parts x,ePs T.futures x,pPs T.futures x,Nat.zero_le _,rfl,rfl,Lib.hid ⟨by simp,by simp[chainE],by simp[stepP]⟩,G5⟩
      case round=>
        obtain⟨i,vW,vE,vP,W,E,P,hi,rfl,rfl,HV,HB⟩:=hrel;clear G5
        by_cases hik:i<k
        · obtain⟨z,hz⟩: ∃z,L[i]? =some z:=⟨_,List.getElem?_eq_getElem (by rw[HL.out,HK.out];exact hik)⟩
          have HZ:=Lib.hid hz;obtain⟨b6,o6,z',e6,_,_,_⟩:=(OwnI.ints HB.out.x.own).at_ (k:=i) (by rw[HL.out,HK.out];exact hik)
          subst e6;have hlen:W.length=f0+i/\P.length=f0+i/\E.length<=f0+i:=by
            obtain⟨h1,h2,h3⟩:=HV.out;obtain⟨g1,g2,g3⟩:=HWL.out;rw[h1,h2,h3,List.length_append,List.length_append,List.length_append,List.length_take,chainE_len,stepP_len,g1,g2];have:L.length=k:=by rw[HL.out,HK.out]
            omega
          have HLN:=Lib.hid (⟨by omega,by omega,by omega⟩:P.length<=1000/\E.length<=1000/\W.length<=1000)
          have HLE:=Lib.hid hlen;have o2:=HB.out.outc.2.2;have hws:=HB.out.size;clear hz hlen
          go_wp2_with(at_builtin;refine wpList_pushX rfl _ _ 153 89 2 16 (.agg #[.int .i64 0, .int .i64 0]) Tryz.underlying89 piece_info rfl (by decide) (by decide) rfl rfl wr w0.heap.size P.length vP (flatE P) [.int .i64 (x:Int), .int .i64 (i:Int)] HB.out.hP rfl (by simp[Value.oneCell']) HLN.out.1 hws rfl rfl ?_;intro F d w4 hO hR hat;(have hrow:=hR.heap HB.out.out (by decide));(have y2:=cell_of_row w4 _ 2 _ _ _ hrow);(have z2:=frozen_of_row w4 _ 2 _ _ hrow);(simp at y2);(have HR:=Lib.hid hR);(have HO:=Lib.hid hO);clear hR hO hat hrow)
          have HVX:Hid (Value.slice (some ⟨b6,o6,none⟩) k c6= .slice (some ⟨b6,o6,none⟩) k c6):=Lib.hid rfl;obtain⟨vP2,hvP2⟩: ∃v,v=Value.slice F (P.length+1) d:=⟨_,rfl⟩;have G6:Hid (GrS w0 (⟨P',np,pc,E',ne,ec,Fu,nf,fc,R',nr,rc⟩:Sh) T W E (P++ [((x:Int),(i:Int))]) vW vE vP2 (.slice (some ⟨b6,o6,none⟩) k c6) L (w4.setCell ⟨w0.heap.size+1+1,2,none⟩ (.slice F (P.length+1) d))):=Lib.hid (by
            rw[hvP2];exact HB.out.piece (p:=((x:Int),(i:Int))) HR.out (by unfold OwnP;rw[List.length_append,flatE_append];exact HO.out))
          obtain⟨w6,hw6⟩: ∃w6,w6=w4.setCell ⟨w0.heap.size+1+1,2,none⟩ (.slice F (P.length+1) d):=⟨_,rfl⟩;rw[<-hw6]at G6⊢;have HVW:=Lib.hid (fun b (hb:vW.ownBlock=some b)=>(row_lt G6.out.hW b hb).2.1)
          have HVL:=Lib.hid (fun b (hb:(Value.slice (some ⟨b6,o6,none⟩) k c6).ownBlock=some b)=>(row_lt G6.out.x.own b hb).2.1)
          clear hw6 hvP2 HR HO o2 hws y2 z2 HB;refine wp_region_gather2' 11 8 [41,42,43,44,45,46,47,48,49,50,51] (by kernel_rfl) (by kernel_rfl) (by intro d hd;simp at hd⊢;omega) (fun y=>GrI w0 (⟨P',np,pc,E',ne,ec,Fu,nf,fc,R',nr,rc⟩:Sh) T E (P++ [((x:Int),(i:Int))]) vW vE vP2 (.slice (some ⟨b6,o6,none⟩) k c6) L y/\w6.heap.size<=y.heap.size) (fun y=>OwnI y w0.heap.size vW W) (RXl 3 w0.heap.size vW.ownBlock) (GwF (w0.heap.size+1+1) w0.heap.size w6.heap.size W.length vW W (some ⟨b6,o6,none⟩) b6 o6 k c6 i z)
            (fun _ _ h=> .inl h) (fun y1 y2 h hr=>⟨h.1.rx hr,Nat.le_trans h.2 hr.size⟩) (fun _ _ h hb=>own_below h hb) (fun q v y1 y2 hq h hr=>gwF_rx q v y1 y2 hq h hr) (fun v y1 y2 h hb=>⟨Grew.below h.1 hb,h.2⟩)
            ⟨G6.out.i.rx (.inl (Below.refl _ _).drew),(Below.refl w6.heap.size w6).drew.size⟩ (own_below G6.out.hW (Below.refl _ _).drew) ?hstep ?hlast
          case hstep=>
            intro j o hj ho ρ y hI hA hd hJ;have t3:ρ (.tmp 3)= .pointer (some ⟨w0.heap.size+1+1,0,none⟩):=hA.tmp 3 (by decide)
            have t6:ρ (.tmp 6)= .slice (some ⟨b6,o6,none⟩) k c6:=hA.tmp 6 (by decide)
            have t7:ρ (.tmp 7)= .int .i64 (i:Int):=hA.tmp 7 (by decide)
            have d0:y.cell? ⟨w0.heap.size+1+1,0,none⟩=some vW:=by rw[cell_of_row _ _ _ _ _ _ hI.1.out];rfl
            have d6:y.cell? ⟨b6,o6+i,none⟩=some (.int .i64 z):=ints_at7 (OwnI.ints' hI.1.x.own HVX.out) HZ.out
            have hsz:w0.heap.size<=y.heap.size:=hI.1.q.bel.size
            match j,hj with
            | 0, _ =>
              have hoo:=Option.some.inj ho;subst hoo;exact⟨.pointer (some ⟨w0.heap.size+1+1,0,none⟩),y,by simp[execOp,t3,go_sem],rfl,Below.refl _ _⟩
            | 1, _ =>
              have hoo:=Option.some.inj ho;subst hoo;have f:ρ (.tmp 41)= .pointer (some ⟨w0.heap.size+1+1,0,none⟩):=hd ⟨0, .data⟩ (by simp) (by rfl)
              exact⟨.pointer (some ⟨w0.heap.size+1+1,0,none⟩),y,by simp[execOp,f,go_sem],rfl,Below.refl _ _⟩
            | 2, _ =>
              have hoo:=Option.some.inj ho;subst hoo;have f:ρ (.tmp 42)= .pointer (some ⟨w0.heap.size+1+1,0,none⟩):=hd ⟨1, .data⟩ (by simp) (by rfl)
              exact⟨vW,y,by simp[execOp,f,d0,go_sem],rfl,Below.refl _ _⟩
            | 3, _ =>
              have hoo:=Option.some.inj ho;subst hoo;exact⟨.slice (some ⟨b6,o6,none⟩) k c6,y,by simp[execOp,t6,go_sem],rfl,Below.refl _ _⟩
            | 4, _ =>
              have hoo:=Option.some.inj ho;subst hoo;exact⟨.int .i64 (i:Int),y,by simp[execOp,t7,go_sem],rfl,Below.refl _ _⟩
            | 5, _ =>
              have hoo:=Option.some.inj ho;subst hoo;have f3:ρ (.tmp 44)= .slice (some ⟨b6,o6,none⟩) k c6:=hd ⟨3, .data⟩ (by simp) (by rfl)
              have f4:ρ (.tmp 45)= .int .i64 (i:Int):=hd ⟨4, .data⟩ (by simp) (by rfl)
              exact⟨.pointer (some ⟨b6,o6+i,none⟩),y,idx_eq rfl f3 f4 hik,rfl,Below.refl _ _⟩
            | 6, _ =>
              have hoo:=Option.some.inj ho;subst hoo;have f:ρ (.tmp 46)= .pointer (some ⟨b6,o6+i,none⟩):=hd ⟨5, .data⟩ (by simp) (by rfl)
              exact⟨.int .i64 z,y,by simp[execOp,f,d6,go_sem],rfl,Below.refl _ _⟩
            | 7, _ =>
              have hoo:=Option.some.inj ho;subst hoo;have f:ρ (.tmp 47)= .int .i64 z:=hd ⟨6, .data⟩ (by simp) (by rfl)
              exact⟨.slice (some ⟨y.heap.size,0,none⟩) 1 1,y.alloc (.cells #[.int .i64 z] 3),by simp[execOp,f,go_sem],⟨_,rfl,heap_alloc_new y _,fun e=>by have:=HVW.out _ e;have:=hI.2;omega⟩,below_alloc _⟩
            | 8, _ =>
              have hoo:=Option.some.inj ho;subst hoo;have f5:ρ (.tmp 43)=vW:=hd ⟨2, .data⟩ (by simp) (by rfl)
              have f7:OwnX 3 vW.ownBlock [.int .i64 z] (ρ (.tmp 48)) y:=hd ⟨7, .data⟩ (by simp) (by rfl)
              obtain⟨u',w2',hr,how,hrb,hat⟩:=ownX_append (tl:=40) Tryz.underlying40 int_cell_info rfl (by omega) (by omega) (hJ rfl) f7 rfl (by simp[Value.oneCell']) HLN.out.2.2 hsz
              exact⟨u',w2',by simp[execOp,resolve,invoke,builtin,f5,hr,Result.andThen],⟨how,fun b hb=>(hat b hb).imp id fun h=>Nat.le_trans hI.2 h⟩,hrb⟩
            | 9, _ =>
              have hoo:=Option.some.inj ho;subst hoo;exact⟨.pointer (some ⟨w0.heap.size+1+1,0,none⟩),y,by simp[execOp,t3,go_sem],rfl,Below.refl _ _⟩
            | 10, _ =>
              have hoo:=Option.some.inj ho;subst hoo;have f:ρ (.tmp 50)= .pointer (some ⟨w0.heap.size+1+1,0,none⟩):=hd ⟨9, .data⟩ (by simp) (by rfl)
              exact⟨.pointer (some ⟨w0.heap.size+1+1,0,none⟩),y,by simp[execOp,f,go_sem],rfl,Below.refl _ _⟩
            |j+11,hk=>omega
          case hlast=>
            intro o ho vals y hI hF;have hoo:=Option.some.inj ho;subst hoo;refine gr_storeW (W:=W) (.tmp 51) (.tmp 49) rfl rfl hI.1 (hF 8 (by decide)) (hF 10 (by decide)) HVL.out ?_
            intro F2 d2 w7 hG7;have B7:=Lib.hid hG7;clear hG7 hI hF G6;simp only[fillA,fillL,List.contains_cons,List.contains_nil,Nat.reduceBEq,Bool.or_false,Bool.false_or,Bool.or_true,Bool.true_or,cond_true,cond_false,Nat.zero_add,Nat.reduceAdd];obtain⟨W2,hW2⟩: ∃W2,W2=W++ [z]:=⟨_,rfl⟩;obtain⟨P2,hP2⟩: ∃P2,P2=P++ [((x:Int),(i:Int))]:=⟨_,rfl⟩;obtain⟨vW2,hvW2⟩: ∃v,v=Value.slice F2 (W.length+1) d2:=⟨_,rfl⟩;rw[<-hW2,<-hP2,<-hvW2]at B7;have HW2:Hid (W2=wPs T.futures T.parts x++L.take (i+1)):=Lib.hid (by
              rw[hW2,HV.out.1,List.append_assoc,List.take_add_one,HZ.out];rfl)
            have HP2:Hid (P2=pPs T.futures x++stepP x (i+1)):=Lib.hid (by rw[hP2,HV.out.2.2,List.append_assoc,stepP_succ])
            obtain⟨nE,hnE⟩: ∃n,E.length=n:=⟨_,rfl⟩;have HEL:Hid (E.length=nE/\nE<=1000):=Lib.hid ⟨hnE,by rw[<-hnE];exact HLN.out.2.1⟩
            clear hW2 hP2 hvW2 hnE HLN HVW HVL HVX
            by_cases hi0:0<i
            · have hgi:decide ((0:Int)<(i:Int))=true:=decide_eq_true (by omega)
              have hgi2:decide (0<i)=true:=decide_eq_true hi0;obtain⟨ea,ha⟩: ∃a:Int,a=((f0+i - 1:Nat):Int):=⟨_,rfl⟩;obtain⟨eb,hb⟩: ∃b:Int,b=((f0+i:Nat):Int):=⟨_,rfl⟩;have HAB:Hid (IntKind.i64.wrap ((firN T.futures x:Int)+(i:Int))=eb/\IntKind.i64.wrap (eb - 1)=ea):=Lib.hid (by
                rw[<-HF0.out];exact⟨by rw[hb,IntKind.wrap_i64];omega,by rw[ha,hb,IntKind.wrap_i64];omega⟩)
              have HE2:Hid (E++ [(ea,eb)]=ePs T.futures x++chainE (firN T.futures x) (i+1)):=Lib.hid (by
                obtain⟨i',rfl⟩: ∃i',i=i'+1:=⟨i - 1,by omega⟩
                rw[HV.out.2.1,List.append_assoc,chainE_succ,<-HF0.out,ha,hb];rfl)
              clear ha hb;go_wp2_with fail;refine wp_region_pushed [54,55,56,57,58,59,60,61,62,63,64,65,66,67] 68 4 (by kernel_rfl) (by kernel_rfl) (by intro d hd;simp at hd⊢;omega) ⟨_,rfl,fun ρ w=>by simp[execOp,go_sem]⟩ (GrS w0 (⟨P',np,pc,E',ne,ec,Fu,nf,fc,R',nr,rc⟩:Sh) T W2 E P2 vW2 vE vP2 (.slice (some ⟨b6,o6,none⟩) k c6) L) (PhiGa P' np pc E' ne ec Fu nf fc R' nr rc T vE x i ea eb) (fun v y=> ∃F d,v= .slice F (nE+1) d/\GrS w0 (⟨P',np,pc,E',ne,ec,Fu,nf,fc,R',nr,rc⟩:Sh) T W2 (E++ [(ea,eb)]) P2 vW2 (.slice F (nE+1) d) vP2 (.slice (some ⟨b6,o6,none⟩) k c6) L y)
                (fun x y h hb=>h.next hb) (phiGa_below P' np pc E' ne ec Fu nf fc R' nr rc T vE x i ea eb) (B7.out.next (Below.refl _ _).drew) ?hstep ?hpush ?hend
              case hstep=>
                intro kq o hkl ho a w hI hA hd K hK;obtain⟨ρ,hρ⟩: ∃ρ,a.eval=ρ:=⟨_,rfl⟩;rw[hρ]at hA hd
                match kq,hkl,ho with
                | 0, _, ho =>
                  have hoo:=Option.some.inj ho;subst hoo;exact fx_val hK hρ vE (by have h:=hA.tmp 4 (by decide);simp[execOp,h,go_sem]) rfl
                | 1, _, ho =>
                  have hoo:=Option.some.inj ho;subst hoo;exact fx_val hK hρ ((⟨P',np,pc,E',ne,ec,Fu,nf,fc,R',nr,rc⟩:Sh).arg T.period T.deadline) (ld_desc rfl (hA.tmp 1 (by decide)) hI.q.c) rfl
                | 2, _, ho =>
                  have hoo:=Option.some.inj ho;subst hoo;exact fx_val hK hρ (.int .i64 (x:Int)) (by have h:=hA.tmp 5 (by decide);simp[execOp,h,go_sem]) rfl
                | 3, _, ho =>
                  have hoo:=Option.some.inj ho;subst hoo;have f1:(ρ (.tmp 55))=(⟨P',np,pc,E',ne,ec,Fu,nf,fc,R',nr,rc⟩:Sh).arg T.period T.deadline:=hd ⟨1, .data⟩ (by simp) (by rfl)
                  have f2:(ρ (.tmp 56))= .int .i64 (x:Int):=hd ⟨2, .data⟩ (by simp) (by rfl)
                  exact fx_call hK hρ 126 _ _ #[(⟨P',np,pc,E',ne,ec,Fu,nf,fc,R',nr,rc⟩:Sh).arg T.period T.deadline, .int .i64 (x:Int)] rfl (by simp only[List.map_toArray,List.map_cons,List.map_nil,hA.const,f1,f2]) (eg_of Tryz.func126 (by kernel_rfl) rfl) ((rfirst_any w x (HISD.out _ hI.q.bel) HM.out (by have:=HIN.out;omega)).mono fun e w' ⟨he,hb⟩=>⟨_,he,rfl,hb⟩)
                | 4, _, ho =>
                  have hoo:=Option.some.inj ho;subst hoo;exact fx_val hK hρ (.int .i64 (i:Int)) (by have h:=hA.tmp 7 (by decide);simp[execOp,h,go_sem]) rfl
                | 5, _, ho =>
                  have hoo:=Option.some.inj ho;subst hoo;have f3:(ρ (.tmp 57))= .int .i64 (firN T.futures x:Int):=hd ⟨3, .data⟩ (by simp) (by rfl)
                  have f4:(ρ (.tmp 58))= .int .i64 (i:Int):=hd ⟨4, .data⟩ (by simp) (by rfl)
                  exact fx_val hK hρ (.int .i64 eb) (by simp[execOp,f3,f4,HAB.out.1,go_sem]) rfl
                | 6, _, ho =>
                  have hoo:=Option.some.inj ho;subst hoo;have f5:(ρ (.tmp 59))= .int .i64 eb:=hd ⟨5, .data⟩ (by simp) (by rfl)
                  exact fx_val hK hρ (.int .i64 ea) (by simp[execOp,f5,hA.const,HAB.out.2,go_sem]) rfl
                | 7, _, ho =>
                  have hoo:=Option.some.inj ho;subst hoo;exact fx_val hK hρ ((⟨P',np,pc,E',ne,ec,Fu,nf,fc,R',nr,rc⟩:Sh).arg T.period T.deadline) (ld_desc rfl (hA.tmp 1 (by decide)) hI.q.c) rfl
                | 8, _, ho =>
                  have hoo:=Option.some.inj ho;subst hoo;exact fx_val hK hρ (.int .i64 (x:Int)) (by have h:=hA.tmp 5 (by decide);simp[execOp,h,go_sem]) rfl
                | 9, _, ho =>
                  have hoo:=Option.some.inj ho;subst hoo;have f7:(ρ (.tmp 61))=(⟨P',np,pc,E',ne,ec,Fu,nf,fc,R',nr,rc⟩:Sh).arg T.period T.deadline:=hd ⟨7, .data⟩ (by simp) (by rfl)
                  have f8:(ρ (.tmp 62))= .int .i64 (x:Int):=hd ⟨8, .data⟩ (by simp) (by rfl)
                  exact fx_call hK hρ 126 _ _ #[(⟨P',np,pc,E',ne,ec,Fu,nf,fc,R',nr,rc⟩:Sh).arg T.period T.deadline, .int .i64 (x:Int)] rfl (by simp only[List.map_toArray,List.map_cons,List.map_nil,hA.const,f7,f8]) (eg_of Tryz.func126 (by kernel_rfl) rfl) ((rfirst_any w x (HISD.out _ hI.q.bel) HM.out (by have:=HIN.out;omega)).mono fun e w' ⟨he,hb⟩=>⟨_,he,rfl,hb⟩)
                | 10, _, ho =>
                  have hoo:=Option.some.inj ho;subst hoo;exact fx_val hK hρ (.int .i64 (i:Int)) (by have h:=hA.tmp 7 (by decide);simp[execOp,h,go_sem]) rfl
                | 11, _, ho =>
                  have hoo:=Option.some.inj ho;subst hoo;have f9:(ρ (.tmp 63))= .int .i64 (firN T.futures x:Int):=hd ⟨9, .data⟩ (by simp) (by rfl)
                  have f10:(ρ (.tmp 64))= .int .i64 (i:Int):=hd ⟨10, .data⟩ (by simp) (by rfl)
                  exact fx_val hK hρ (.int .i64 eb) (by simp[execOp,f9,f10,HAB.out.1,go_sem]) rfl
                | 12, _, ho =>
                  have hoo:=Option.some.inj ho;subst hoo;have f6:(ρ (.tmp 60))= .int .i64 ea:=hd ⟨6, .data⟩ (by simp) (by rfl)
                  have f11:(ρ (.tmp 65))= .int .i64 eb:=hd ⟨11, .data⟩ (by simp) (by rfl)
                  exact fx_val hK hρ (.agg #[.int .i64 ea, .int .i64 eb]) (by simp[execOp,f6,f11,go_sem]) rfl
                | 13, _, ho =>
                  have hoo:=Option.some.inj ho;subst hoo;have f12:(ρ (.tmp 66))= .agg #[.int .i64 ea, .int .i64 eb]:=hd ⟨12, .data⟩ (by simp) (by rfl)
                  exact fx_make hK hρ (.slice (some ⟨w.heap.size,0,none⟩) 1 1) (w.alloc (.cells #[.int .i64 ea, .int .i64 eb] 131)) (by simp[execOp,f12,go_sem]) (ownEd_new hI ea eb) (below_alloc _)
                |kq+14,hkl,_=>exact absurd hkl (by simp)
              case hpush=>
                intro o ho ρ w hI hA hF;have hoo:=Option.some.inj ho;subst hoo;have fe:ρ (.tmp 54)=vE:=hF 0 (by decide)
                have fx:OwnEd ea eb vE (ρ (.tmp 67)) w:=hF 13 (by decide)
                obtain⟨F,d,w',hr,hG,_⟩:=push_edge hI fx HEL.out.1 HEL.out.2;exact⟨.slice F (nE+1) d,w',by simp[execOp,resolve,invoke,builtin,fe,hr,Result.andThen],F,d,rfl,hG⟩
              case hend=>
                intro vals xw hT he;obtain⟨F3,d3,e3,hG3⟩:=hT;rw[e3]at he;have B8:=Lib.hid hG3;clear hG3 e3 B7;simp only[List.cons_append,List.nil_append,fillA,fillL,List.contains_cons,List.contains_nil,Nat.reduceBEq,Bool.or_false,Bool.false_or,Bool.or_true,Bool.true_or,cond_true,cond_false,Nat.zero_add,Nat.reduceAdd];rw[he];clear he;go_wp2;go_roundw
                case rel=>exact⟨i+1,_,_,_,_,_,_,hik,rfl,by go_num,Lib.hid ⟨HW2.out,HE2.out,HP2.out⟩,B8⟩
                case measure=>simp[intOf];omega
            · obtain rfl:i=0:=by omega
              have HE2:Hid (E=ePs T.futures x++chainE (firN T.futures x) (0+1)):=Lib.hid HV.out.2.1;go_wp2;go_roundw
              case rel=>exact⟨0+1,_,_,_,_,_,_,hik,rfl,by go_num,Lib.hid ⟨HW2.out,HE2.out,HP2.out⟩,B7⟩
              case measure=>simp[intOf];omega
        · obtain rfl:i=k:=by omega
          have HT:Hid (W=wPs T.futures T.parts (x+1)/\E=ePs T.futures (x+1)/\P=pPs T.futures (x+1)):=Lib.hid (by
            obtain⟨h1,h2,h3⟩:=HV.out;rw[h1,h2,h3,List.take_of_length_le (by rw[HL.out,HK.out];exact Nat.le_refl _),HL.out,HKN.out]
            exact⟨rfl,rfl,rfl⟩)
          obtain⟨rfl,rfl,rfl⟩:=HT.out;clear HT HV;go_wp2;go_roundw
          case rel=>exact⟨x+1,_,_,_,_,_,hlt,rfl,by go_num,HB⟩
          case measure=>simp[intOf];omega
    · obtain rfl:np=x:=by omega
      clear hlt hx;have HZ0:Hid ((wPs T.futures T.parts np).length<=36/\(pPs T.futures np).length<=36/\(ePs T.futures np).length<=36/\(pPs T.futures np).length=firN T.futures np):=Lib.hid (by
        have h1:=wPs_len T.futures T.parts np;have h2:=pPs_len T.futures np;have h3:=ePs_len T.futures np;have h4:=firN_small HM.out (j:=np) (by rw[HPL.out];exact Nat.le_refl _)
        omega)
      obtain⟨W,hW⟩: ∃W,W=wPs T.futures T.parts np:=⟨_,rfl⟩;obtain⟨E0,hE0⟩: ∃E,E=ePs T.futures np:=⟨_,rfl⟩;obtain⟨P,hP⟩: ∃P,P=pPs T.futures np:=⟨_,rfl⟩;rw[<-hW,<-hE0,<-hP]at HB HZ0;have HWE:=Lib.hid (And.intro hW (And.intro hE0 hP));clear hW hE0 hP;have HFEW:Hid ((T.edges.length=ne/\ne<=48)/\(T.futures.length=nf/\nf<=16)/\T.bars.length=nr/\nr<=4/\np<=16):=Lib.hid (by
        have h:=HM.out.few;unfold ManyT at h;have hd:=(HISD.out w0 (Below.refl _ _)).t;have k1:=hd.hp;have k2:=hd.he;have k3:=hd.hf;have k4:=hd.hr;simp only at k1 k2 k3 k4;omega)
      have G0:=HB;clear HB;go_wp2;go_loopw [4,8] (fun ve jv wr=> ∃(j:Nat) (vE:Value) (E:List (Int×Int)),j<=ne/\vE=ve/\jv= .int .i64 (j:Int)/\Hid (E=E0++(T.edges.take j).map (edgN T.futures))/\Hid (GrS w0 (⟨P',np,pc,E',ne,ec,Fu,nf,fc,R',nr,rc⟩:Sh) T W E P vW vE vP vX L wr)) (fun _ jv _=>ne - (intOf jv).toNat)
      case atStart=>exact⟨0,_,E0,Nat.zero_le _,rfl,rfl,Lib.hid (by simp),G0⟩
      case round=>
        obtain⟨j,vE,E,hj,rfl,rfl,HV,HB⟩:=hrel;clear G0;have hne48:ne<=48:=HFEW.out.1.2;have t3:=HB.out.q.c.2.2.2.1;simp only at t3
        by_cases hlt:j<ne
        · obtain⟨xb,xo,⟨e1,e2⟩,hEA,hxb,hq,d1,d2⟩:=(HISD.out w0 (Below.refl _ _)).t.edges.at_ (k:=j) (by rw[HFEW.out.1.1];exact hlt)
          have hmem:=HM.out.edges.1 _ (List.mem_of_getElem? hq)
          obtain⟨m,hm⟩: ∃m:Nat,e1=(m:Int):=⟨e1.toNat,by have:=hmem.1;simp only at this;omega⟩
          obtain⟨n,hn⟩: ∃n:Nat,e2=(n:Int):=⟨e2.toNat,by have:=hmem.2.2.1;simp only at this;omega⟩
          subst hm hn;have HMN:Hid (m<T.parts.length/\n<T.parts.length):=Lib.hid (by have h1:=hmem.2.1;have h2:=hmem.2.2.2;simp only at h1 h2;omega)
          have HEA:Hid (E'=some ⟨xb,xo,none⟩):=Lib.hid hEA;have HX:=Lib.hid (fun(y:World) (h:Below w0.heap.size w0 y)=>(⟨(h.cell hxb).trans d1,(h.cell hxb).trans d2⟩:y.cell? ⟨xb,xo+j * 2,none⟩=some (.int .i64 (m:Int))/\y.cell? ⟨xb,xo+j * 2+1,none⟩=some (.int .i64 (n:Int))))
          obtain⟨ea,ha⟩: ∃a:Int,a=((lasN T.futures m:Nat):Int):=⟨_,rfl⟩;obtain⟨eb,hb⟩: ∃a:Int,a=((firN T.futures n:Nat):Int):=⟨_,rfl⟩;have HAB:Hid (((lasN T.futures m:Nat):Int)=ea/\((firN T.futures n:Nat):Int)=eb):=Lib.hid ⟨ha.symm,hb.symm⟩;have HE2:Hid (E++ [(ea,eb)]=E0++(T.edges.take (j+1)).map (edgN T.futures)):=Lib.hid (by
            rw[HV.out,List.append_assoc,List.take_add_one,hq,ha,hb,List.map_append];rfl)
          obtain⟨nE,hnE⟩: ∃n,E.length=n:=⟨_,rfl⟩;have HEL:Hid (E.length=nE/\nE<=1000):=Lib.hid ⟨hnE,by rw[<-hnE,HV.out,List.length_append,List.length_map,List.length_take];have:=HZ0.out;have:=HFEW.out;omega⟩
          clear hEA hxb hq d1 d2 hmem ha hb hnE;go_wp2_with fail;refine wp_region_pushed [76,77,78,79,80,81,82,83,84,85,86,87,88,89,90,91,92,93,94] 95 4 (by kernel_rfl) (by kernel_rfl) (by intro d hd;simp at hd⊢;omega) ⟨_,rfl,fun ρ w=>by simp[execOp,go_sem]⟩ (GrS w0 (⟨P',np,pc,E',ne,ec,Fu,nf,fc,R',nr,rc⟩:Sh) T W E P vW vE vP vX L) (PhiGb P' np pc E' ne ec Fu nf fc R' nr rc T vE w0 j xb xo m n ea eb) (fun v y=> ∃F d,v= .slice F (nE+1) d/\GrS w0 (⟨P',np,pc,E',ne,ec,Fu,nf,fc,R',nr,rc⟩:Sh) T W (E++ [(ea,eb)]) P vW (.slice F (nE+1) d) vP vX L y)
            (fun x y h hb=>h.next hb) (phiGb_below P' np pc E' ne ec Fu nf fc R' nr rc T vE w0 j xb xo m n ea eb) (HB.out.next (Below.refl _ _).drew) ?hstep ?hpush ?hend
          case hstep=>
            intro kq o hkl ho a w hI hA hd K hK;obtain⟨ρ,hρ⟩: ∃ρ,a.eval=ρ:=⟨_,rfl⟩;rw[hρ]at hA hd
            match kq,hkl,ho with
            | 0, _, ho =>
              have hoo:=Option.some.inj ho;subst hoo;exact fx_val hK hρ vE (by have h:=hA.tmp 4 (by decide);simp[execOp,h,go_sem]) rfl
            | 1, _, ho =>
              have hoo:=Option.some.inj ho;subst hoo;exact fx_val hK hρ ((⟨P',np,pc,E',ne,ec,Fu,nf,fc,R',nr,rc⟩:Sh).arg T.period T.deadline) (ld_desc rfl (hA.tmp 1 (by decide)) hI.q.c) rfl
            | 2, _, ho =>
              have hoo:=Option.some.inj ho;subst hoo;exact fx_val hK hρ _ (by have h:=hA.tmp 1 (by decide);simp[execOp,h,go_sem]) rfl
            | 3, _, ho =>
              have hoo:=Option.some.inj ho;subst hoo;have f2:(ρ (.tmp 78))= .pointer (some ⟨w0.heap.size,3,none⟩):=hd ⟨2, .data⟩ (by simp) (by rfl)
              exact fx_val hK hρ (.slice E' ne ec) (by have h0:=hI.q.c.2.2.2.1;simp[execOp,f2,h0,go_sem]) rfl
            | 4, _, ho =>
              have hoo:=Option.some.inj ho;subst hoo;exact fx_val hK hρ (.int .i64 (j:Int)) (by have h:=hA.tmp 8 (by decide);simp[execOp,h,go_sem]) rfl
            | 5, _, ho =>
              have hoo:=Option.some.inj ho;subst hoo;have f3:(ρ (.tmp 79))= .slice E' ne ec:=hd ⟨3, .data⟩ (by simp) (by rfl)
              have f4:(ρ (.tmp 80))= .int .i64 (j:Int):=hd ⟨4, .data⟩ (by simp) (by rfl)
              exact fx_val hK hρ _ (idx_eqE8 rfl (f3.trans (congrArg (fun A=>Value.slice A ne ec) HEA.out)) f4 hlt) rfl
            | 6, _, ho =>
              have hoo:=Option.some.inj ho;subst hoo;have f5:(ρ (.tmp 81))= .pointer (some ⟨xb,xo+j * 2,none⟩):=hd ⟨5, .data⟩ (by simp) (by rfl)
              exact fx_val hK hρ _ (by simp[execOp,f5,go_sem]) rfl
            | 7, _, ho =>
              have hoo:=Option.some.inj ho;subst hoo;have f6:(ρ (.tmp 82))= .pointer (some ⟨xb,xo+j * 2,none⟩):=hd ⟨6, .data⟩ (by simp) (by rfl)
              exact fx_val hK hρ (.int .i64 (m:Int)) (by have h0:=(HX.out _ hI.q.bel).1;simp[execOp,f6,h0,go_sem]) rfl
            | 8, _, ho =>
              have hoo:=Option.some.inj ho;subst hoo;have f1:(ρ (.tmp 77))=(⟨P',np,pc,E',ne,ec,Fu,nf,fc,R',nr,rc⟩:Sh).arg T.period T.deadline:=hd ⟨1, .data⟩ (by simp) (by rfl)
              have f7:(ρ (.tmp 83))= .int .i64 (m:Int):=hd ⟨7, .data⟩ (by simp) (by rfl)
              exact fx_call hK hρ 127 _ _ #[(⟨P',np,pc,E',ne,ec,Fu,nf,fc,R',nr,rc⟩:Sh).arg T.period T.deadline, .int .i64 (m:Int)] rfl (by simp only[List.map_toArray,List.map_cons,List.map_nil,hA.const,f1,f7]) (eg_of Tryz.func127 (by kernel_rfl) rfl) ((rfinal_any w m (HISD.out _ hI.q.bel) HM.out HMN.out.1).mono fun e w' ⟨he,hb⟩=>⟨_,he,rfl,hb⟩)
            | 9, _, ho =>
              have hoo:=Option.some.inj ho;subst hoo;exact fx_val hK hρ ((⟨P',np,pc,E',ne,ec,Fu,nf,fc,R',nr,rc⟩:Sh).arg T.period T.deadline) (ld_desc rfl (hA.tmp 1 (by decide)) hI.q.c) rfl
            | 10, _, ho =>
              have hoo:=Option.some.inj ho;subst hoo;exact fx_val hK hρ _ (by have h:=hA.tmp 1 (by decide);simp[execOp,h,go_sem]) rfl
            | 11, _, ho =>
              have hoo:=Option.some.inj ho;subst hoo;have f10:(ρ (.tmp 86))= .pointer (some ⟨w0.heap.size,3,none⟩):=hd ⟨10, .data⟩ (by simp) (by rfl)
              exact fx_val hK hρ (.slice E' ne ec) (by have h0:=hI.q.c.2.2.2.1;simp[execOp,f10,h0,go_sem]) rfl
            | 12, _, ho =>
              have hoo:=Option.some.inj ho;subst hoo;exact fx_val hK hρ (.int .i64 (j:Int)) (by have h:=hA.tmp 8 (by decide);simp[execOp,h,go_sem]) rfl
            | 13, _, ho =>
              have hoo:=Option.some.inj ho;subst hoo;have f11:(ρ (.tmp 87))= .slice E' ne ec:=hd ⟨11, .data⟩ (by simp) (by rfl)
              have f12:(ρ (.tmp 88))= .int .i64 (j:Int):=hd ⟨12, .data⟩ (by simp) (by rfl)
              exact fx_val hK hρ _ (idx_eqE8 rfl (f11.trans (congrArg (fun A=>Value.slice A ne ec) HEA.out)) f12 hlt) rfl
            | 14, _, ho =>
              have hoo:=Option.some.inj ho;subst hoo;have f13:(ρ (.tmp 89))= .pointer (some ⟨xb,xo+j * 2,none⟩):=hd ⟨13, .data⟩ (by simp) (by rfl)
              exact fx_val hK hρ _ (by simp[execOp,f13,go_sem]) rfl
            | 15, _, ho =>
              have hoo:=Option.some.inj ho;subst hoo;have f14:(ρ (.tmp 90))= .pointer (some ⟨xb,xo+j * 2+1,none⟩):=hd ⟨14, .data⟩ (by simp) (by rfl)
              exact fx_val hK hρ (.int .i64 (n:Int)) (by have h0:=(HX.out _ hI.q.bel).2;simp[execOp,f14,h0,go_sem]) rfl
            | 16, _, ho =>
              have hoo:=Option.some.inj ho;subst hoo;have f9:(ρ (.tmp 85))=(⟨P',np,pc,E',ne,ec,Fu,nf,fc,R',nr,rc⟩:Sh).arg T.period T.deadline:=hd ⟨9, .data⟩ (by simp) (by rfl)
              have f15:(ρ (.tmp 91))= .int .i64 (n:Int):=hd ⟨15, .data⟩ (by simp) (by rfl)
              exact fx_call hK hρ 126 _ _ #[(⟨P',np,pc,E',ne,ec,Fu,nf,fc,R',nr,rc⟩:Sh).arg T.period T.deadline, .int .i64 (n:Int)] rfl (by simp only[List.map_toArray,List.map_cons,List.map_nil,hA.const,f9,f15]) (eg_of Tryz.func126 (by kernel_rfl) rfl) ((rfirst_any w n (HISD.out _ hI.q.bel) HM.out (Nat.le_of_lt HMN.out.2)).mono fun e w' ⟨he,hb⟩=>⟨_,he,rfl,hb⟩)
            | 17, _, ho =>
              have hoo:=Option.some.inj ho;subst hoo;have f8:(ρ (.tmp 84))= .int .i64 (lasN T.futures m:Int):=hd ⟨8, .data⟩ (by simp) (by rfl)
              have f16:(ρ (.tmp 92))= .int .i64 (firN T.futures n:Int):=hd ⟨16, .data⟩ (by simp) (by rfl)
              exact fx_val hK hρ (.agg #[.int .i64 ea, .int .i64 eb]) (by simp[execOp,f8,f16,HAB.out.1,HAB.out.2,go_sem]) rfl
            | 18, _, ho =>
              have hoo:=Option.some.inj ho;subst hoo;have f17:(ρ (.tmp 93))= .agg #[.int .i64 ea, .int .i64 eb]:=hd ⟨17, .data⟩ (by simp) (by rfl)
              exact fx_make hK hρ (.slice (some ⟨w.heap.size,0,none⟩) 1 1) (w.alloc (.cells #[.int .i64 ea, .int .i64 eb] 131)) (by simp[execOp,f17,go_sem]) (ownEd_new hI ea eb) (below_alloc _)
            |kq+19,hkl,_=>exact absurd hkl (by simp)
          case hpush=>
            intro o ho ρ w hI hA hF;have hoo:=Option.some.inj ho;subst hoo;have fe:ρ (.tmp 76)=vE:=hF 0 (by decide)
            have fx:OwnEd ea eb vE (ρ (.tmp 94)) w:=hF 18 (by decide)
            obtain⟨F,d,w',hr,hG,_⟩:=push_edge hI fx HEL.out.1 HEL.out.2;exact⟨.slice F (nE+1) d,w',by simp[execOp,resolve,invoke,builtin,fe,hr,Result.andThen],F,d,rfl,hG⟩
          case hend=>
            intro vals xw hT he;obtain⟨F3,d3,e3,hG3⟩:=hT;rw[e3]at he;have B8:=Lib.hid hG3;clear hG3 e3 HB;simp only[List.cons_append,List.nil_append,fillA,fillL,List.contains_cons,List.contains_nil,Nat.reduceBEq,Bool.or_false,Bool.false_or,Bool.or_true,Bool.true_or,cond_true,cond_false,Nat.zero_add,Nat.reduceAdd];rw[he];clear he;go_wp2;go_roundw
            case rel=>exact⟨j+1,_,_,hlt,rfl,by go_num,HE2,B8⟩
            case measure=>simp[intOf];omega
        · obtain rfl:ne=j:=by omega
          have HE1:Hid (E=E0++T.edges.map (edgN T.futures)):=Lib.hid (by rw[HV.out,List.take_of_length_le (by rw[HFEW.out.1.1];exact Nat.le_refl _)])
          have HZ1:Hid (E.length<=84):=Lib.hid (by rw[HE1.out,List.length_append,List.length_map];have:=HZ0.out;have:=HFEW.out;omega)
          obtain⟨E1,hE1⟩: ∃E1,E1=E:=⟨_,rfl⟩;rw[<-hE1]at HE1 HZ1 HB;clear hE1 HV hlt hj;have G1:=HB;clear HB;go_wp2;go_loopw [4,9] (fun ve jv wr=> ∃(j:Nat) (vE:Value) (E:List (Int×Int)),j<=nf/\vE=ve/\jv= .int .i64 (j:Int)/\Hid (E=E1++(List.range j).map (futN T.futures))/\Hid (GrS w0 (⟨P',np,pc,E',ne,ec,Fu,nf,fc,R',nr,rc⟩:Sh) T W E P vW vE vP vX L wr)) (fun _ jv _=>nf - (intOf jv).toNat)
          case atStart=>exact⟨0,_,E1,Nat.zero_le _,rfl,rfl,Lib.hid (by simp),G1⟩
          case round=>
            obtain⟨j,vE,E,hj,rfl,rfl,HV,HB⟩:=hrel;clear G1;have hnf16:nf<=16:=HFEW.out.2.1.2;have t4:=HB.out.q.c.2.2.2.2.1;simp only at t4
            by_cases hlt:j<nf
            · obtain⟨xb,xo,f1,f2,f3,hEA,hxb,hft,d1,d2,d3⟩:=(HISD.out w0 (Below.refl _ _)).t.futures.at_ (k:=j) (by rw[HFEW.out.2.1.1];exact hlt)
              have hjf:j<T.futures.length:=by rw[HFEW.out.2.1.1];exact hlt
              obtain⟨m,uN,hf,hm,hu,_⟩:=fut_parts' HM.out hjf;have hfa:futAt T.futures j=(f1,f2,f3):=by unfold futAt;rw[List.getD_eq_getElem?_getD,hft];rfl
              have hm1:f1=(m:Int):=by rw[hfa]at hf;exact congrArg Prod.fst hf
              have HJF:=Lib.hid hjf;have HMN:Hid (m<T.parts.length/\uN<T.parts.length):=Lib.hid ⟨hm,hu⟩;have HEA:Hid (Fu=some ⟨xb,xo,none⟩):=Lib.hid hEA;have HXM:Hid (∀(y:World) (h:Below w0.heap.size w0 y),y.cell? ⟨xb,xo+j * 3,none⟩=some (.int .i64 (m:Int))):=Lib.hid (fun(y:World) (h:Below w0.heap.size w0 y)=>by rw[<-hm1];exact(h.cell hxb).trans d1)
              have HX:Hid (∀(y:World) (h:Below w0.heap.size w0 y),y.cell? ⟨xb,xo+j * 3,none⟩=some (.int .i64 (futAt T.futures j).1)/\y.cell? ⟨xb,xo+j * 3+1,none⟩=some (.int .i64 (futAt T.futures j).2.1)/\y.cell? ⟨xb,xo+j * 3+2,none⟩=some (.int .i64 (futAt T.futures j).2.2)):=Lib.hid (fun(y:World) (h:Below w0.heap.size w0 y)=>by rw[hfa];exact⟨(h.cell hxb).trans d1,(h.cell hxb).trans d2,(h.cell hxb).trans d3⟩)
              obtain⟨ea,ha⟩: ∃a:Int,a=((lasN T.futures m:Nat):Int):=⟨_,rfl⟩;obtain⟨eb,hb⟩: ∃a:Int,a=((begN T.futures j:Nat):Int):=⟨_,rfl⟩;have HAB:Hid (((lasN T.futures m:Nat):Int)=ea/\((begN T.futures j:Nat):Int)=eb):=Lib.hid ⟨ha.symm,hb.symm⟩;have HE2:Hid (E++ [(ea,eb)]=E1++(List.range (j+1)).map (futN T.futures)):=Lib.hid (by
                have h1:futN T.futures j=(ea,eb):=by unfold futN;rw[hf,ha,hb];rfl
                rw[HV.out,List.append_assoc,List.range_succ,List.map_append,<-h1];rfl)
              obtain⟨nE,hnE⟩: ∃n,E.length=n:=⟨_,rfl⟩;have HEL:Hid (E.length=nE/\nE<=1000):=Lib.hid ⟨hnE,by rw[<-hnE,HV.out,List.length_append,List.length_map,List.length_range];have:=HZ1.out;have:=HFEW.out;omega⟩
              clear hEA hxb hft d1 d2 d3 hjf hf hm hu hfa hm1 ha hb hnE;go_wp2_with fail;refine wp_region_pushed [103,104,105,106,107,108,109,110,111,112,113,114,115,116,117,118,119,120] 121 4 (by kernel_rfl) (by kernel_rfl) (by intro d hd;simp at hd⊢;omega) ⟨_,rfl,fun ρ w=>by simp[execOp,go_sem]⟩ (GrS w0 (⟨P',np,pc,E',ne,ec,Fu,nf,fc,R',nr,rc⟩:Sh) T W E P vW vE vP vX L) (PhiGc P' np pc E' ne ec Fu nf fc R' nr rc T vE w0 j xb xo m ea eb) (fun v y=> ∃F d,v= .slice F (nE+1) d/\GrS w0 (⟨P',np,pc,E',ne,ec,Fu,nf,fc,R',nr,rc⟩:Sh) T W (E++ [(ea,eb)]) P vW (.slice F (nE+1) d) vP vX L y)
                (fun x y h hb=>h.next hb) (phiGc_below P' np pc E' ne ec Fu nf fc R' nr rc T vE w0 j xb xo m ea eb) (HB.out.next (Below.refl _ _).drew) ?hstep ?hpush ?hend
              case hstep=>
                intro kq o hkl ho a w hI hA hd K hK;obtain⟨ρ,hρ⟩: ∃ρ,a.eval=ρ:=⟨_,rfl⟩;rw[hρ]at hA hd
                match kq,hkl,ho with
                | 0, _, ho =>
                  have hoo:=Option.some.inj ho;subst hoo;exact fx_val hK hρ vE (by have h:=hA.tmp 4 (by decide);simp[execOp,h,go_sem]) rfl
                | 1, _, ho =>
                  have hoo:=Option.some.inj ho;subst hoo;exact fx_val hK hρ ((⟨P',np,pc,E',ne,ec,Fu,nf,fc,R',nr,rc⟩:Sh).arg T.period T.deadline) (ld_desc rfl (hA.tmp 1 (by decide)) hI.q.c) rfl
                | 2, _, ho =>
                  have hoo:=Option.some.inj ho;subst hoo;exact fx_val hK hρ _ (by have h:=hA.tmp 1 (by decide);simp[execOp,h,go_sem]) rfl
                | 3, _, ho =>
                  have hoo:=Option.some.inj ho;subst hoo;have f2:(ρ (.tmp 105))= .pointer (some ⟨w0.heap.size,4,none⟩):=hd ⟨2, .data⟩ (by simp) (by rfl)
                  exact fx_val hK hρ (.slice Fu nf fc) (by have h0:=hI.q.c.2.2.2.2.1;simp[execOp,f2,h0,go_sem]) rfl
                | 4, _, ho =>
                  have hoo:=Option.some.inj ho;subst hoo;exact fx_val hK hρ (.int .i64 (j:Int)) (by have h:=hA.tmp 9 (by decide);simp[execOp,h,go_sem]) rfl
                | 5, _, ho =>
                  have hoo:=Option.some.inj ho;subst hoo;have f3:(ρ (.tmp 106))= .slice Fu nf fc:=hd ⟨3, .data⟩ (by simp) (by rfl)
                  have f4:(ρ (.tmp 107))= .int .i64 (j:Int):=hd ⟨4, .data⟩ (by simp) (by rfl)
                  exact fx_val hK hρ _ (idx_eqU8 rfl (f3.trans (congrArg (fun A=>Value.slice A nf fc) HEA.out)) f4 hlt) rfl
                | 6, _, ho =>
                  have hoo:=Option.some.inj ho;subst hoo;have f5:(ρ (.tmp 108))= .pointer (some ⟨xb,xo+j * 3,none⟩):=hd ⟨5, .data⟩ (by simp) (by rfl)
                  exact fx_val hK hρ _ (by simp[execOp,f5,go_sem]) rfl
                | 7, _, ho =>
                  have hoo:=Option.some.inj ho;subst hoo;have f6:(ρ (.tmp 109))= .pointer (some ⟨xb,xo+j * 3,none⟩):=hd ⟨6, .data⟩ (by simp) (by rfl)
                  exact fx_val hK hρ (.int .i64 (m:Int)) (by have h0:=(HXM.out _ hI.q.bel);simp[execOp,f6,h0,go_sem]) rfl
                | 8, _, ho =>
                  have hoo:=Option.some.inj ho;subst hoo;have f1:(ρ (.tmp 104))=(⟨P',np,pc,E',ne,ec,Fu,nf,fc,R',nr,rc⟩:Sh).arg T.period T.deadline:=hd ⟨1, .data⟩ (by simp) (by rfl)
                  have f7:(ρ (.tmp 110))= .int .i64 (m:Int):=hd ⟨7, .data⟩ (by simp) (by rfl)
                  exact fx_call hK hρ 127 _ _ #[(⟨P',np,pc,E',ne,ec,Fu,nf,fc,R',nr,rc⟩:Sh).arg T.period T.deadline, .int .i64 (m:Int)] rfl (by simp only[List.map_toArray,List.map_cons,List.map_nil,hA.const,f1,f7]) (eg_of Tryz.func127 (by kernel_rfl) rfl) ((rfinal_any w m (HISD.out _ hI.q.bel) HM.out HMN.out.1).mono fun e w' ⟨he,hb⟩=>⟨_,he,rfl,hb⟩)
                | 9, _, ho =>
                  have hoo:=Option.some.inj ho;subst hoo;exact fx_val hK hρ ((⟨P',np,pc,E',ne,ec,Fu,nf,fc,R',nr,rc⟩:Sh).arg T.period T.deadline) (ld_desc rfl (hA.tmp 1 (by decide)) hI.q.c) rfl
                | 10, _, ho =>
                  have hoo:=Option.some.inj ho;subst hoo;exact fx_val hK hρ _ (by have h:=hA.tmp 1 (by decide);simp[execOp,h,go_sem]) rfl
                | 11, _, ho =>
                  have hoo:=Option.some.inj ho;subst hoo;have f10:(ρ (.tmp 113))= .pointer (some ⟨w0.heap.size,4,none⟩):=hd ⟨10, .data⟩ (by simp) (by rfl)
                  exact fx_val hK hρ (.slice Fu nf fc) (by have h0:=hI.q.c.2.2.2.2.1;simp[execOp,f10,h0,go_sem]) rfl
                | 12, _, ho =>
                  have hoo:=Option.some.inj ho;subst hoo;exact fx_val hK hρ (.int .i64 (j:Int)) (by have h:=hA.tmp 9 (by decide);simp[execOp,h,go_sem]) rfl
                | 13, _, ho =>
                  have hoo:=Option.some.inj ho;subst hoo;have f11:(ρ (.tmp 114))= .slice Fu nf fc:=hd ⟨11, .data⟩ (by simp) (by rfl)
                  have f12:(ρ (.tmp 115))= .int .i64 (j:Int):=hd ⟨12, .data⟩ (by simp) (by rfl)
                  exact fx_val hK hρ _ (idx_eqU8 rfl (f11.trans (congrArg (fun A=>Value.slice A nf fc) HEA.out)) f12 hlt) rfl
                | 14, _, ho =>
                  have hoo:=Option.some.inj ho;subst hoo;have f13:(ρ (.tmp 116))= .pointer (some ⟨xb,xo+j * 3,none⟩):=hd ⟨13, .data⟩ (by simp) (by rfl)
                  exact fx_val hK hρ (.agg #[.int .i64 (futAt T.futures j).1, .int .i64 (futAt T.futures j).2.1, .int .i64 (futAt T.futures j).2.2]) (by have h0:=(HX.out _ hI.q.bel).1;have h1:=(HX.out _ hI.q.bel).2.1;have h2:=(HX.out _ hI.q.bel).2.2;simp[execOp,f13,h0,h1,h2,go_sem]) rfl
                | 15, _, ho =>
                  have hoo:=Option.some.inj ho;subst hoo;have f9:(ρ (.tmp 112))=(⟨P',np,pc,E',ne,ec,Fu,nf,fc,R',nr,rc⟩:Sh).arg T.period T.deadline:=hd ⟨9, .data⟩ (by simp) (by rfl)
                  have f14:(ρ (.tmp 117))= .agg #[.int .i64 (futAt T.futures j).1, .int .i64 (futAt T.futures j).2.1, .int .i64 (futAt T.futures j).2.2]:=hd ⟨14, .data⟩ (by simp) (by rfl)
                  exact fx_call hK hρ 128 _ _ #[(⟨P',np,pc,E',ne,ec,Fu,nf,fc,R',nr,rc⟩:Sh).arg T.period T.deadline, .agg #[.int .i64 (futAt T.futures j).1, .int .i64 (futAt T.futures j).2.1, .int .i64 (futAt T.futures j).2.2]] rfl (by simp only[List.map_toArray,List.map_cons,List.map_nil,hA.const,f9,f14]) (eg_of Tryz.func128 (by kernel_rfl) rfl) ((rbegin_any w j (HISD.out _ hI.q.bel) HM.out HJF.out).mono fun e w' ⟨he,hb⟩=>⟨_,he,rfl,hb⟩)
                | 16, _, ho =>
                  have hoo:=Option.some.inj ho;subst hoo;have f8:(ρ (.tmp 111))= .int .i64 (lasN T.futures m:Int):=hd ⟨8, .data⟩ (by simp) (by rfl)
                  have f15:(ρ (.tmp 118))= .int .i64 (begN T.futures j:Int):=hd ⟨15, .data⟩ (by simp) (by rfl)
                  exact fx_val hK hρ (.agg #[.int .i64 ea, .int .i64 eb]) (by simp[execOp,f8,f15,HAB.out.1,HAB.out.2,go_sem]) rfl
                | 17, _, ho =>
                  have hoo:=Option.some.inj ho;subst hoo;have f16:(ρ (.tmp 119))= .agg #[.int .i64 ea, .int .i64 eb]:=hd ⟨16, .data⟩ (by simp) (by rfl)
                  exact fx_make hK hρ (.slice (some ⟨w.heap.size,0,none⟩) 1 1) (w.alloc (.cells #[.int .i64 ea, .int .i64 eb] 131)) (by simp[execOp,f16,go_sem]) (ownEd_new hI ea eb) (below_alloc _)
                |kq+18,hkl,_=>exact absurd hkl (by simp)
              case hpush=>
                intro o ho ρ w hI hA hF;have hoo:=Option.some.inj ho;subst hoo;have fe:ρ (.tmp 103)=vE:=hF 0 (by decide)
                have fx:OwnEd ea eb vE (ρ (.tmp 120)) w:=hF 17 (by decide)
                obtain⟨F,d,w',hr,hG,_⟩:=push_edge hI fx HEL.out.1 HEL.out.2;exact⟨.slice F (nE+1) d,w',by simp[execOp,resolve,invoke,builtin,fe,hr,Result.andThen],F,d,rfl,hG⟩
              case hend=>
                intro vals xw hT he;obtain⟨F3,d3,e3,hG3⟩:=hT;rw[e3]at he;have B8:=Lib.hid hG3;clear hG3 e3 HB;simp only[List.cons_append,List.nil_append,fillA,fillL,List.contains_cons,List.contains_nil,Nat.reduceBEq,Bool.or_false,Bool.false_or,Bool.or_true,Bool.true_or,cond_true,cond_false,Nat.zero_add,Nat.reduceAdd];rw[he];clear he;go_wp2;go_roundw
                case rel=>exact⟨j+1,_,_,hlt,rfl,by go_num,HE2,B8⟩
                case measure=>simp[intOf];omega
            · obtain rfl:nf=j:=by omega
              have HE2:Hid (E=E1++(List.range nf).map (futN T.futures)):=HV;have HZ2:Hid (E.length<=100):=Lib.hid (by rw[HE2.out,List.length_append,List.length_map,List.length_range];have:=HZ1.out;have:=HFEW.out;omega)
              obtain⟨E2,hE2⟩: ∃E2,E2=E:=⟨_,rfl⟩;rw[<-hE2]at HE2 HZ2 HB;clear hE2 HV hlt hj;obtain⟨W0,hW0⟩: ∃V,V=W:=⟨_,rfl⟩;obtain⟨P0,hP0⟩: ∃V,V=P:=⟨_,rfl⟩;rw[<-hW0,<-hP0]at HB HZ0 HWE;clear hW0 hP0;have G2:=HB;clear HB;go_wp2;go_loopw [4,10] (fun ve xv wr=> ∃(x:Nat) (vW vE vP:Value) (W:List Int) (E P:List (Int×Int)),x<=nr/\vE=ve/\xv= .int .i64 (x:Int)/\Hid (W=W0++List.replicate x 1/\E=E2++bEs T.futures T.bars (firN T.futures np) x/\P=P0++(List.range x).map (fun j=>(((-1:Int)),((j:Nat):Int))))/\Hid (GrS w0 (⟨P',np,pc,E',ne,ec,Fu,nf,fc,R',nr,rc⟩:Sh) T W E P vW vE vP vX L wr)) (fun _ xv _=>nr - (intOf xv).toNat)
              case atStart=>exact⟨0,_,_,_,W0,E2,P0,Nat.zero_le _,rfl,rfl,Lib.hid ⟨by simp,by simp[bEs],by simp⟩,G2⟩
              case round=>
                obtain⟨x,vW,vE,vP,W,E,P,hx,rfl,rfl,HV,HB⟩:=hrel;clear G2;have hnr4:nr<=4:=HFEW.out.2.2.2.1;have t5:=HB.out.q.c.2.2.2.2.2;simp only at t5;have HBL:Hid (∀b∈T.bars,b.1.length<=16/\b.2.length<=16):=Lib.hid (fun b hb=>by
                  have h:=HM.out.bars b hb;have k1:=row_len' h.ins;have k2:=row_len' h.outs;have k3:=HPL.out;have k4:=HFEW.out.2.2.2.2;omega)
                have HEB:Hid (E.length<=300):=Lib.hid (by
                  have h1:=bEs_len T.futures T.bars (firN T.futures np) 16 HBL.out x;have h2:x * (2 * 16)<=4 * (2 * 16):=Nat.mul_le_mul (by omega) (Nat.le_refl _)
                  have h3:=HZ2.out;rw[HV.out.2.1,List.length_append];omega)
                by_cases hlx:x<nr
                · obtain⟨rb,ro,li,lo,Ai,n1,c1,Ao,n2,c2,hRA,hrb,hbq,hli,hlo,d1,d2,hIi,hIo,_,_⟩:=(HISD.out w0 (Below.refl _ _)).t.bars.at_ (k:=x) (by rw[HFEW.out.2.2.1];exact hlx)
                  simp only at hRA;subst hRA;have hbo:=HM.out.bars _ (List.mem_of_getElem? hbq)
                  have hb16:=HBL.out _ (List.mem_of_getElem? hbq)
                  simp only at hb16;have HLI:=Lib.hid hli;have HLO:=Lib.hid hlo;have HII:=Lib.hid hIi;have HIO:=Lib.hid hIo;have hn1:n1<=16:=by rw[<-hli];exact hb16.1
                  have hn2:n2<=16:=by rw[<-hlo];exact hb16.2
                  have HZI:Hid (∀z∈li,0<=z/\z<(T.parts.length:Int)):=Lib.hid hbo.ins.parts;have HZO:Hid (∀z∈lo,0<=z/\z<(T.parts.length:Int)):=Lib.hid hbo.outs.parts;have HXB:Hid (∀(y:World),Below w0.heap.size w0 y->y.cell? ⟨rb,ro+x * 2,none⟩=some (.slice Ai n1 c1)/\y.cell? ⟨rb,ro+x * 2+1,none⟩=some (.slice Ao n2 c2)):=Lib.hid (fun y h=>⟨(h.cell hrb).trans d1,(h.cell hrb).trans d2⟩)
                  have HBQ:=Lib.hid hbq;obtain⟨at',hat'⟩: ∃n,P.length=n:=⟨_,rfl⟩;have hatf:at'=firN T.futures np+x:=by rw[<-hat',HV.out.2.2,List.length_append,HZ0.out.2.2.2,List.length_map,List.length_range]
                  have hop:=HB.out.hP;unfold OwnP at hop;rw[hat']at hop;obtain⟨A4,d4,hvP⟩:=own_slice' hop;subst hvP;have HOP:=Lib.hid hop;have HAT:=Lib.hid hat';have HATF:=Lib.hid hatf;have HLN:Hid (at'<=1000/\w0.heap.size<=wr.heap.size/\W.length<=1000):=Lib.hid (by
                    have h:=HZ0.out;have h1:=HB.out.size;rw[<-hat',HV.out.2.2,HV.out.1,List.length_append,List.length_append,List.length_map,List.length_range,List.length_replicate];omega)
                  have o2:=HB.out.outc.2.2;clear hli hlo hIi hIo d1 d2 hbo hb16 hrb hbq hat' hatf hop HBL
                  go_wp2_with(first|(at_builtin;refine wpList_pushX rfl _ _ 153 89 2 16 (.agg #[.int .i64 0, .int .i64 0]) Tryz.underlying89 piece_info rfl (by decide) (by decide) rfl rfl wr w0.heap.size at' (.slice A4 at' d4) (flatE P) [.int .i64 (-1), .int .i64 (x:Int)] HOP.out rfl (by simp[Value.oneCell']) HLN.out.1 HLN.out.2.1 rfl rfl ?_;intro F d w4 hO hR hat;(have G6:=Lib.hid (HB.out.piece (p:=((-1:Int),(x:Int))) hR (by unfold OwnP;rw[List.length_append,flatE_append,HAT.out];exact hO)));(have o0:=G6.out.outc.1);(have hrow:=hR.heap HB.out.out (by decide));(have y2:=cell_of_row w4 _ 2 _ _ _ hrow);(have z2:=frozen_of_row w4 _ 2 _ _ hrow);(simp at y2);clear hO hR hat hrow o2)|(at_builtin;refine wpList_pushX rfl _ _ 3 40 1 8 (.int .i64 0) Tryz.underlying40 int_cell_info rfl (by decide) (by decide) rfl rfl _ w0.heap.size W.length vW (W.map (Value.int .i64)) [.int .i64 1] G6.out.hW rfl (by simp[Value.oneCell']) HLN.out.2.2 G6.out.size (by first|rfl|simp[Act.eval]) (by first|rfl|simp[Act.eval]) ?_;intro F5 d5 w5 hO hR hat;(have G7:=Lib.hid (G6.out.work (k:=1) hR hat (by unfold OwnI;rw[List.length_append,List.map_append];exact hO)));(have hrow:=hR.heap G6.out.out (by decide));(have y0:=cell_of_row w5 _ 0 _ _ _ hrow);(have z0:=frozen_of_row w5 _ 0 _ _ hrow);(simp at y0);(have t5:=G7.out.q.c.2.2.2.2.2);(simp only at t5);(have q0:=(HXB.out _ G7.out.q.bel).1);(have q1:=(HXB.out _ G7.out.q.bel).2);clear hO hR hat hrow o0 y2 z2))
                  obtain⟨wq,hwq⟩: ∃wq,wq=(w5.setCell ⟨w0.heap.size+1+1,0,none⟩ (.slice F5 (W.length+1) d5)).alloc (.cells #[.slice Ai n1 c1, .slice Ao n2 c2] 97):=⟨_,rfl⟩;obtain⟨gq,hgq⟩: ∃g,g=w5.heap.size:=⟨_,rfl⟩;obtain⟨W2,hW2⟩: ∃V,V=W++ [(1:Int)]:=⟨_,rfl⟩;obtain⟨P2,hP2⟩: ∃V,V=P++ [((-1:Int),(x:Int))]:=⟨_,rfl⟩;obtain⟨vW2,hvW2⟩: ∃v,v=Value.slice F5 (W.length+1) d5:=⟨_,rfl⟩;obtain⟨vP2,hvP2⟩: ∃v,v=Value.slice F (at'+1) d:=⟨_,rfl⟩;obtain⟨E3,hE3⟩: ∃V,V=E:=⟨_,rfl⟩;have G13:Hid (GrB w0 (⟨P',np,pc,E',ne,ec,Fu,nf,fc,(some ⟨rb,ro,none⟩),nr,rc⟩:Sh) T W2 E3 P2 vW2 vE vP2 vX L gq Ai n1 c1 Ao n2 c2 wq):=Lib.hid (by
                    rw[hW2,hP2,hvW2,hvP2,hgq,hwq,hE3];refine⟨G7.out.next (below_alloc _),?_⟩
                    have h:=heap_alloc_new (w5.setCell ⟨w0.heap.size+1+1,0,none⟩ (.slice F5 (W.length+1) d5)) (.cells #[.slice Ai n1 c1, .slice Ao n2 c2] 97);have hs:(w5.setCell ⟨w0.heap.size+1+1,0,none⟩ (.slice F5 (W.length+1) d5)).heap.size=w5.heap.size:=by simp
                    rw[hs]at h;exact h)
                  rw[<-hwq,<-hgq];have HW3:Hid (W2=W0++List.replicate (x+1) 1):=Lib.hid (by rw[hW2,HV.out.1,List.append_assoc,<-List.replicate_succ'])
                  have HP3:Hid (P2=P0++(List.range (x+1)).map (fun j=>(((-1:Int)),((j:Nat):Int)))):=Lib.hid (by rw[hP2,HV.out.2.2,List.append_assoc,List.range_succ,List.map_append];rfl)
                  have HE3b:Hid (E3=E2++bEs T.futures T.bars (firN T.futures np) x):=Lib.hid (by rw[hE3];exact HV.out.2.1)
                  have HE3:Hid (E3.length<=300):=Lib.hid (by rw[hE3];exact HEB.out)
                  clear hwq hgq hW2 hP2 hvW2 hvP2 hE3 y0 z0 t5 q0 q1 G6 G7 HV HEB HB HOP HAT HLN HXB;go_loopw [4,13] (fun ve jv wr=> ∃(j:Nat) (vE:Value) (E:List (Int×Int)),j<=n1/\vE=ve/\jv= .int .i64 (j:Int)/\Hid (E=E3++inE T.futures at' (li.take j))/\Hid (GrB w0 (⟨P',np,pc,E',ne,ec,Fu,nf,fc,(some ⟨rb,ro,none⟩),nr,rc⟩:Sh) T W2 E P2 vW2 vE vP2 vX L gq Ai n1 c1 Ao n2 c2 wr)) (fun _ jv _=>n1 - (intOf jv).toNat)
                  case atStart=>exact⟨0,_,E3,Nat.zero_le _,rfl,rfl,Lib.hid (by simp[inE]),G13⟩
                  case round=>
                    obtain⟨j,vE,E,hj,rfl,rfl,HV,HB⟩:=hrel;clear G13;have t6:=HB.out.b0;have hLE:E.length<=340:=by rw[HV.out,List.length_append];unfold inE;rw[List.length_map,List.length_take];have:=HE3.out;omega
                    by_cases hlt:j<n1
                    · obtain⟨xb,xo,e1,hEA,hxb,hq,hc⟩:=HII.out.at_ (k:=j) (by rw[HLI.out];exact hlt)
                      have hz:=HZI.out e1 (List.mem_of_getElem? hq)
                      obtain⟨m,hm⟩: ∃m:Nat,e1=(m:Int):=⟨e1.toNat,by omega⟩
                      subst hm;have hmp:m<T.parts.length:=by omega
                      have HMN:Hid (m<T.parts.length/\m<T.parts.length):=Lib.hid ⟨hmp,hmp⟩;have HEA:Hid (Ai=some ⟨xb,xo,none⟩):=Lib.hid hEA;have HX:Hid (∀(y:World),Below w0.heap.size w0 y->y.cell? ⟨xb,xo+j,none⟩=some (.int .i64 (m:Int))):=Lib.hid (fun(y:World) (h:Below w0.heap.size w0 y)=>(h.cell hxb).trans hc)
                      obtain⟨ea,ha⟩: ∃a:Int,a=((lasN T.futures m:Nat):Int):=⟨_,rfl⟩;obtain⟨eb,hb⟩: ∃a:Int,a=((at':Nat):Int):=⟨_,rfl⟩;have HAB:Hid (((lasN T.futures m:Nat):Int)=ea/\((at':Nat):Int)=eb):=Lib.hid ⟨ha.symm,hb.symm⟩;have HE2:Hid (E++ [(ea,eb)]=E3++inE T.futures at' (li.take (j+1))):=Lib.hid (by
                        rw[HV.out,List.append_assoc,take_in hq,ha,hb])
                      obtain⟨nE,hnE⟩: ∃n,E.length=n:=⟨_,rfl⟩;have HEL:Hid (E.length=nE/\nE<=1000):=Lib.hid ⟨hnE,by rw[<-hnE];exact Nat.le_trans hLE (by decide)⟩
                      clear hEA hxb hq hc hz hmp ha hb hnE hLE;go_wp2_with fail;refine wp_region_pushed [158,159,160,161,162,163,164,165,166,167,168] 169 4 (by kernel_rfl) (by kernel_rfl) (by intro d hd;simp at hd⊢;omega) ⟨_,rfl,fun ρ w=>by simp[execOp,go_sem]⟩ (GrB w0 (⟨P',np,pc,E',ne,ec,Fu,nf,fc,(some ⟨rb,ro,none⟩),nr,rc⟩:Sh) T W2 E P2 vW2 vE vP2 vX L gq Ai n1 c1 Ao n2 c2) (PhiGd P' np pc E' ne ec Fu nf fc (some ⟨rb,ro,none⟩) nr rc T vE gq Ai n1 c1 j xb xo m at' ea eb) (fun v y=> ∃F d,v= .slice F (nE+1) d/\GrB w0 (⟨P',np,pc,E',ne,ec,Fu,nf,fc,(some ⟨rb,ro,none⟩),nr,rc⟩:Sh) T W2 (E++ [(ea,eb)]) P2 vW2 (.slice F (nE+1) d) vP2 vX L gq Ai n1 c1 Ao n2 c2 y)
                        (fun x y h hb=>h.next hb) (phiGd_below P' np pc E' ne ec Fu nf fc (some ⟨rb,ro,none⟩) nr rc T vE gq Ai n1 c1 j xb xo m at' ea eb) (HB.out.next (Below.refl _ _).drew) ?hstep ?hpush ?hend
                      case hstep=>
                        intro kq o hkl ho a w hI hA hd K hK;obtain⟨ρ,hρ⟩: ∃ρ,a.eval=ρ:=⟨_,rfl⟩;rw[hρ]at hA hd
                        match kq,hkl,ho with
                        | 0, _, ho =>
                          have hoo:=Option.some.inj ho;subst hoo;exact fx_val hK hρ vE (by have h:=hA.tmp 4 (by decide);simp[execOp,h,go_sem]) rfl
                        | 1, _, ho =>
                          have hoo:=Option.some.inj ho;subst hoo;exact fx_val hK hρ ((⟨P',np,pc,E',ne,ec,Fu,nf,fc,(some ⟨rb,ro,none⟩),nr,rc⟩:Sh).arg T.period T.deadline) (ld_desc rfl (hA.tmp 1 (by decide)) hI.q.c) rfl
                        | 2, _, ho =>
                          have hoo:=Option.some.inj ho;subst hoo;exact fx_val hK hρ _ (by have h:=hA.tmp 12 (by decide);simp[execOp,h,go_sem]) rfl
                        | 3, _, ho =>
                          have hoo:=Option.some.inj ho;subst hoo;have f2:(ρ (.tmp 160))= .pointer (some ⟨gq,0,none⟩):=hd ⟨2, .data⟩ (by simp) (by rfl)
                          exact fx_val hK hρ (.slice Ai n1 c1) (by have h0:=hI.b0;simp[execOp,f2,h0,go_sem]) rfl
                        | 4, _, ho =>
                          have hoo:=Option.some.inj ho;subst hoo;exact fx_val hK hρ (.int .i64 (j:Int)) (by have h:=hA.tmp 13 (by decide);simp[execOp,h,go_sem]) rfl
                        | 5, _, ho =>
                          have hoo:=Option.some.inj ho;subst hoo;have f3:(ρ (.tmp 161))= .slice Ai n1 c1:=hd ⟨3, .data⟩ (by simp) (by rfl)
                          have f4:(ρ (.tmp 162))= .int .i64 (j:Int):=hd ⟨4, .data⟩ (by simp) (by rfl)
                          exact fx_val hK hρ _ (idx_eq rfl (f3.trans (congrArg (fun A=>Value.slice A n1 c1) HEA.out)) f4 hlt) rfl
                        | 6, _, ho =>
                          have hoo:=Option.some.inj ho;subst hoo;have f5:(ρ (.tmp 163))= .pointer (some ⟨xb,xo+j,none⟩):=hd ⟨5, .data⟩ (by simp) (by rfl)
                          exact fx_val hK hρ (.int .i64 (m:Int)) (by have h0:=HX.out _ hI.q.bel;simp[execOp,f5,h0,go_sem]) rfl
                        | 7, _, ho =>
                          have hoo:=Option.some.inj ho;subst hoo;have f1:(ρ (.tmp 159))=(⟨P',np,pc,E',ne,ec,Fu,nf,fc,(some ⟨rb,ro,none⟩),nr,rc⟩:Sh).arg T.period T.deadline:=hd ⟨1, .data⟩ (by simp) (by rfl)
                          have f6:(ρ (.tmp 164))= .int .i64 (m:Int):=hd ⟨6, .data⟩ (by simp) (by rfl)
                          exact fx_call hK hρ 127 _ _ #[(⟨P',np,pc,E',ne,ec,Fu,nf,fc,(some ⟨rb,ro,none⟩),nr,rc⟩:Sh).arg T.period T.deadline, .int .i64 (m:Int)] rfl (by simp only[List.map_toArray,List.map_cons,List.map_nil,hA.const,f1,f6]) (eg_of Tryz.func127 (by kernel_rfl) rfl) ((rfinal_any w m (HISD.out _ hI.q.bel) HM.out HMN.out.1).mono fun e w' ⟨he,hb⟩=>⟨_,he,rfl,hb⟩)
                        | 8, _, ho =>
                          have hoo:=Option.some.inj ho;subst hoo;exact fx_val hK hρ (.int .i64 (at':Int)) (by have h:=hA.tmp 11 (by decide);simp[execOp,h,go_sem]) rfl
                        | 9, _, ho =>
                          have hoo:=Option.some.inj ho;subst hoo;have f7:(ρ (.tmp 165))= .int .i64 (lasN T.futures m:Int):=hd ⟨7, .data⟩ (by simp) (by rfl)
                          have f8:(ρ (.tmp 166))= .int .i64 (at':Int):=hd ⟨8, .data⟩ (by simp) (by rfl)
                          exact fx_val hK hρ (.agg #[.int .i64 ea, .int .i64 eb]) (by simp[execOp,f7,f8,HAB.out.1,HAB.out.2,go_sem]) rfl
                        | 10, _, ho =>
                          have hoo:=Option.some.inj ho;subst hoo;have f9:(ρ (.tmp 167))= .agg #[.int .i64 ea, .int .i64 eb]:=hd ⟨9, .data⟩ (by simp) (by rfl)
                          exact fx_make hK hρ (.slice (some ⟨w.heap.size,0,none⟩) 1 1) (w.alloc (.cells #[.int .i64 ea, .int .i64 eb] 131)) (by simp[execOp,f9,go_sem]) (ownEd_new hI.g ea eb) (below_alloc _)
                        |kq+11,hkl,_=>exact absurd hkl (by simp)
                      case hpush=>
                        intro o ho ρ w hI hA hF;have hoo:=Option.some.inj ho;subst hoo;have fe:ρ (.tmp 158)=vE:=hF 0 (by decide)
                        have fx:OwnEd ea eb vE (ρ (.tmp 168)) w:=hF 10 (by decide)
                        obtain⟨F,d,w',hr,hG⟩:=push_edgeB hI fx HEL.out.1 HEL.out.2;exact⟨.slice F (nE+1) d,w',by simp[execOp,resolve,invoke,builtin,fe,hr,Result.andThen],F,d,rfl,hG⟩
                      case hend=>
                        intro vals xw hT he;obtain⟨F3,d3,e3,hG3⟩:=hT;rw[e3]at he;have B8:=Lib.hid hG3;clear hG3 e3 HB;simp only[List.cons_append,List.nil_append,fillA,fillL,List.contains_cons,List.contains_nil,Nat.reduceBEq,Bool.or_false,Bool.false_or,Bool.or_true,Bool.true_or,cond_true,cond_false,Nat.zero_add,Nat.reduceAdd];rw[he];clear he;go_wp2;go_roundw
                        case rel=>exact⟨j+1,_,_,hlt,rfl,by go_num,HE2,B8⟩
                        case measure=>simp[intOf];omega
                    · obtain rfl:n1=j:=by omega
                      obtain⟨E4,hE4⟩: ∃V,V=E:=⟨_,rfl⟩;have HE4b:Hid (E4=E3++inE T.futures at' li):=Lib.hid (by rw[hE4,HV.out,List.take_of_length_le (by rw[HLI.out];exact Nat.le_refl _)])
                      have HE4:Hid (E4.length<=316):=Lib.hid (by rw[HE4b.out,List.length_append];unfold inE;rw[List.length_map,HLI.out];have:=HE3.out;omega)
                      rw[<-hE4]at HB;have G14:=HB;clear hE4 HV HB hLE hlt hj;go_wp2;go_loopw [4,14] (fun ve jv wr=> ∃(j:Nat) (vE:Value) (E:List (Int×Int)),j<=n2/\vE=ve/\jv= .int .i64 (j:Int)/\Hid (E=E4++outE T.futures at' (lo.take j))/\Hid (GrB w0 (⟨P',np,pc,E',ne,ec,Fu,nf,fc,(some ⟨rb,ro,none⟩),nr,rc⟩:Sh) T W2 E P2 vW2 vE vP2 vX L gq Ai n1 c1 Ao n2 c2 wr)) (fun _ jv _=>n2 - (intOf jv).toNat)
                      case atStart=>exact⟨0,_,E4,Nat.zero_le _,rfl,rfl,Lib.hid (by simp[outE]),G14⟩
                      case round=>
                        obtain⟨j,vE,E,hj,rfl,rfl,HV,HB⟩:=hrel;clear G14;have t6:=HB.out.b1;have hLE:E.length<=340:=by rw[HV.out,List.length_append];unfold outE;rw[List.length_map,List.length_take];have:=HE4.out;omega
                        by_cases hlt:j<n2
                        · obtain⟨xb,xo,e1,hEA,hxb,hq,hc⟩:=HIO.out.at_ (k:=j) (by rw[HLO.out];exact hlt)
                          have hz:=HZO.out e1 (List.mem_of_getElem? hq)
                          obtain⟨n,hm⟩: ∃m:Nat,e1=(m:Int):=⟨e1.toNat,by omega⟩
                          subst hm;have hmp:n<T.parts.length:=by omega
                          have HMN:Hid (n<T.parts.length/\n<T.parts.length):=Lib.hid ⟨hmp,hmp⟩;have HEA:Hid (Ao=some ⟨xb,xo,none⟩):=Lib.hid hEA;have HX:Hid (∀(y:World),Below w0.heap.size w0 y->y.cell? ⟨xb,xo+j,none⟩=some (.int .i64 (n:Int))):=Lib.hid (fun(y:World) (h:Below w0.heap.size w0 y)=>(h.cell hxb).trans hc)
                          obtain⟨ea,ha⟩: ∃a:Int,a=((at':Nat):Int):=⟨_,rfl⟩;obtain⟨eb,hb⟩: ∃a:Int,a=((firN T.futures n:Nat):Int):=⟨_,rfl⟩;have HAB:Hid (((at':Nat):Int)=ea/\((firN T.futures n:Nat):Int)=eb):=Lib.hid ⟨ha.symm,hb.symm⟩;have HE2:Hid (E++ [(ea,eb)]=E4++outE T.futures at' (lo.take (j+1))):=Lib.hid (by
                            rw[HV.out,List.append_assoc,take_out hq,ha,hb])
                          obtain⟨nE,hnE⟩: ∃n,E.length=n:=⟨_,rfl⟩;have HEL:Hid (E.length=nE/\nE<=1000):=Lib.hid ⟨hnE,by rw[<-hnE];exact Nat.le_trans hLE (by decide)⟩
                          clear hEA hxb hq hc hz hmp ha hb hnE hLE;go_wp2_with fail;refine wp_region_pushed [177,178,179,180,181,182,183,184,185,186,187] 188 4 (by kernel_rfl) (by kernel_rfl) (by intro d hd;simp at hd⊢;omega) ⟨_,rfl,fun ρ w=>by simp[execOp,go_sem]⟩ (GrB w0 (⟨P',np,pc,E',ne,ec,Fu,nf,fc,(some ⟨rb,ro,none⟩),nr,rc⟩:Sh) T W2 E P2 vW2 vE vP2 vX L gq Ai n1 c1 Ao n2 c2) (PhiGe P' np pc E' ne ec Fu nf fc (some ⟨rb,ro,none⟩) nr rc T vE gq Ao n2 c2 j xb xo n at' ea eb) (fun v y=> ∃F d,v= .slice F (nE+1) d/\GrB w0 (⟨P',np,pc,E',ne,ec,Fu,nf,fc,(some ⟨rb,ro,none⟩),nr,rc⟩:Sh) T W2 (E++ [(ea,eb)]) P2 vW2 (.slice F (nE+1) d) vP2 vX L gq Ai n1 c1 Ao n2 c2 y)
                            (fun x y h hb=>h.next hb) (phiGe_below P' np pc E' ne ec Fu nf fc (some ⟨rb,ro,none⟩) nr rc T vE gq Ao n2 c2 j xb xo n at' ea eb) (HB.out.next (Below.refl _ _).drew) ?hstep ?hpush ?hend
                          case hstep=>
                            intro kq o hkl ho a w hI hA hd K hK;obtain⟨ρ,hρ⟩: ∃ρ,a.eval=ρ:=⟨_,rfl⟩;rw[hρ]at hA hd
                            match kq,hkl,ho with
                            | 0, _, ho =>
                              have hoo:=Option.some.inj ho;subst hoo;exact fx_val hK hρ vE (by have h:=hA.tmp 4 (by decide);simp[execOp,h,go_sem]) rfl
                            | 1, _, ho =>
                              have hoo:=Option.some.inj ho;subst hoo;exact fx_val hK hρ (.int .i64 (at':Int)) (by have h:=hA.tmp 11 (by decide);simp[execOp,h,go_sem]) rfl
                            | 2, _, ho =>
                              have hoo:=Option.some.inj ho;subst hoo;exact fx_val hK hρ ((⟨P',np,pc,E',ne,ec,Fu,nf,fc,(some ⟨rb,ro,none⟩),nr,rc⟩:Sh).arg T.period T.deadline) (ld_desc rfl (hA.tmp 1 (by decide)) hI.q.c) rfl
                            | 3, _, ho =>
                              have hoo:=Option.some.inj ho;subst hoo;exact fx_val hK hρ _ (by have h:=hA.tmp 12 (by decide);simp[execOp,h,go_sem]) rfl
                            | 4, _, ho =>
                              have hoo:=Option.some.inj ho;subst hoo;have f3:(ρ (.tmp 180))= .pointer (some ⟨gq,1,none⟩):=hd ⟨3, .data⟩ (by simp) (by rfl)
                              exact fx_val hK hρ (.slice Ao n2 c2) (by have h0:=hI.b1;simp[execOp,f3,h0,go_sem]) rfl
                            | 5, _, ho =>
                              have hoo:=Option.some.inj ho;subst hoo;exact fx_val hK hρ (.int .i64 (j:Int)) (by have h:=hA.tmp 14 (by decide);simp[execOp,h,go_sem]) rfl
                            | 6, _, ho =>
                              have hoo:=Option.some.inj ho;subst hoo;have f4:(ρ (.tmp 181))= .slice Ao n2 c2:=hd ⟨4, .data⟩ (by simp) (by rfl)
                              have f5:(ρ (.tmp 182))= .int .i64 (j:Int):=hd ⟨5, .data⟩ (by simp) (by rfl)
                              exact fx_val hK hρ _ (idx_eq rfl (f4.trans (congrArg (fun A=>Value.slice A n2 c2) HEA.out)) f5 hlt) rfl
                            | 7, _, ho =>
                              have hoo:=Option.some.inj ho;subst hoo;have f6:(ρ (.tmp 183))= .pointer (some ⟨xb,xo+j,none⟩):=hd ⟨6, .data⟩ (by simp) (by rfl)
                              exact fx_val hK hρ (.int .i64 (n:Int)) (by have h0:=HX.out _ hI.q.bel;simp[execOp,f6,h0,go_sem]) rfl
                            | 8, _, ho =>
                              have hoo:=Option.some.inj ho;subst hoo;have f2:(ρ (.tmp 179))=(⟨P',np,pc,E',ne,ec,Fu,nf,fc,(some ⟨rb,ro,none⟩),nr,rc⟩:Sh).arg T.period T.deadline:=hd ⟨2, .data⟩ (by simp) (by rfl)
                              have f7:(ρ (.tmp 184))= .int .i64 (n:Int):=hd ⟨7, .data⟩ (by simp) (by rfl)
                              exact fx_call hK hρ 126 _ _ #[(⟨P',np,pc,E',ne,ec,Fu,nf,fc,(some ⟨rb,ro,none⟩),nr,rc⟩:Sh).arg T.period T.deadline, .int .i64 (n:Int)] rfl (by simp only[List.map_toArray,List.map_cons,List.map_nil,hA.const,f2,f7]) (eg_of Tryz.func126 (by kernel_rfl) rfl) ((rfirst_any w n (HISD.out _ hI.q.bel) HM.out (Nat.le_of_lt HMN.out.2)).mono fun e w' ⟨he,hb⟩=>⟨_,he,rfl,hb⟩)
                            | 9, _, ho =>
                              have hoo:=Option.some.inj ho;subst hoo;have f1:(ρ (.tmp 178))= .int .i64 (at':Int):=hd ⟨1, .data⟩ (by simp) (by rfl)
                              have f8:(ρ (.tmp 185))= .int .i64 (firN T.futures n:Int):=hd ⟨8, .data⟩ (by simp) (by rfl)
                              exact fx_val hK hρ (.agg #[.int .i64 ea, .int .i64 eb]) (by simp[execOp,f1,f8,HAB.out.1,HAB.out.2,go_sem]) rfl
                            | 10, _, ho =>
                              have hoo:=Option.some.inj ho;subst hoo;have f9:(ρ (.tmp 186))= .agg #[.int .i64 ea, .int .i64 eb]:=hd ⟨9, .data⟩ (by simp) (by rfl)
                              exact fx_make hK hρ (.slice (some ⟨w.heap.size,0,none⟩) 1 1) (w.alloc (.cells #[.int .i64 ea, .int .i64 eb] 131)) (by simp[execOp,f9,go_sem]) (ownEd_new hI.g ea eb) (below_alloc _)
                            |kq+11,hkl,_=>exact absurd hkl (by simp)
                          case hpush=>
                            intro o ho ρ w hI hA hF;have hoo:=Option.some.inj ho;subst hoo;have fe:ρ (.tmp 177)=vE:=hF 0 (by decide)
                            have fx:OwnEd ea eb vE (ρ (.tmp 187)) w:=hF 10 (by decide)
                            obtain⟨F,d,w',hr,hG⟩:=push_edgeB hI fx HEL.out.1 HEL.out.2;exact⟨.slice F (nE+1) d,w',by simp[execOp,resolve,invoke,builtin,fe,hr,Result.andThen],F,d,rfl,hG⟩
                          case hend=>
                            intro vals xw hT he;obtain⟨F3,d3,e3,hG3⟩:=hT;rw[e3]at he;have B8:=Lib.hid hG3;clear hG3 e3 HB;simp only[List.cons_append,List.nil_append,fillA,fillL,List.contains_cons,List.contains_nil,Nat.reduceBEq,Bool.or_false,Bool.false_or,Bool.or_true,Bool.true_or,cond_true,cond_false,Nat.zero_add,Nat.reduceAdd];rw[he];clear he;go_wp2;go_roundw
                            case rel=>exact⟨j+1,_,_,hlt,rfl,by go_num,HE2,B8⟩
                            case measure=>simp[intOf];omega
                        · obtain rfl:n2=j:=by omega
                          have HEX:Hid (E=E2++bEs T.futures T.bars (firN T.futures np) (x+1)):=Lib.hid (by
                            rw[HV.out,HE4b.out,HE3b.out,List.take_of_length_le (by rw[HLO.out];exact Nat.le_refl _),bEs,<-HATF.out,List.append_assoc,List.append_assoc,List.getD_eq_getElem?_getD,HBQ.out]
                            rfl)
                          have B9:=Lib.hid HB.out.g;clear HV HB hLE hlt hj;go_wp2;go_roundw
                          case rel=>exact⟨x+1,_,_,_,_,_,_,hlx,rfl,by go_num,Lib.hid ⟨HW3.out,HEX.out,HP3.out⟩,B9⟩
                          case measure=>simp[intOf];omega
                · obtain rfl:nr=x:=by omega
                  have HF:Hid (W=lowW T/\E=lowE T/\P=lowP T):=Lib.hid ⟨by rw[HV.out.1,HWE.out.1];unfold lowW;rw[HPL.out,HFEW.out.2.2.1],by rw[HV.out.2.1,HE2.out,HE1.out,HWE.out.2.1];unfold lowE;rw[HPL.out,HFEW.out.2.1.1,HFEW.out.2.2.1],by rw[HV.out.2.2,HWE.out.2.2];unfold lowP;rw[HPL.out,HFEW.out.2.2.1]⟩
                  obtain⟨A1,k1,hv1⟩:=own_slice' HB.out.hW;obtain⟨A2,k2,hv2⟩:=own_slice' HB.out.hE;obtain⟨A3,k3,hv3⟩:=own_slice' HB.out.hP;obtain⟨m1,hm1⟩: ∃n,n=W.length:=⟨_,rfl⟩;obtain⟨m2,hm2⟩: ∃n,n=E.length:=⟨_,rfl⟩;obtain⟨m3,hm3⟩: ∃n,n=P.length:=⟨_,rfl⟩;rw[<-hm1]at hv1;rw[<-hm2]at hv2;rw[<-hm3]at hv3;subst hv1 hv2 hv3;clear hm1 hm2 hm3;have HR1:=Lib.hid (heap_setCell_same wr (w0.heap.size+1+1) 1 _ _ (.slice A2 m2 k2) HB.out.out);obtain⟨w1,hw1⟩: ∃w1,w1=wr.setCell ⟨w0.heap.size+1+1,1,none⟩ (.slice A2 m2 k2):=⟨_,rfl⟩;rw[<-hw1]at HR1;have hko: ∀k,k≠w0.heap.size+1+1->w1.heap[k]? =wr.heap[k]? :=fun k hk=>by rw[hw1];exact heap_setCell_other _ _ _ _ hk
                  have hrb:w1.heap[w0.heap.size+1]? =some (.cells #[.slice none 0 0, .slice none 0 0, .slice none 0 0] 91 (0,0)):=by rw[hko _ (by omega)];exact HB.out.res
                  have HRW:=Lib.hid hrb;have HOW:=Lib.hid (And.intro (other_own HB.out.hW HB.out.out (by decide) hko) (And.intro (other_own HB.out.hE HB.out.out (by decide) hko) (other_own HB.out.hP HB.out.out (by decide) hko)))
                  have hle:w0.heap.size<=w0.heap.size+1+1:=by omega
                  have HBW:Hid (Below w0.heap.size w0 w1):=Lib.hid (HB.out.q.bel.trans (by rw[hw1];exact(Below.refl _ wr).setCell hle _))
                  have o1:=HB.out.outc.2.1;have zo:=frozen_of_row wr _ 1 _ _ HB.out.out;have l0:=cell_of_row w1 (w0.heap.size+1+1) 0 _ _ _ HR1.out;have l1:=cell_of_row w1 (w0.heap.size+1+1) 1 _ _ _ HR1.out;have l2:=cell_of_row w1 (w0.heap.size+1+1) 2 _ _ _ HR1.out;have y0:=cell_of_row w1 (w0.heap.size+1) 0 _ _ _ hrb;have y1:=cell_of_row w1 (w0.heap.size+1) 1 _ _ _ hrb;have y2:=cell_of_row w1 (w0.heap.size+1) 2 _ _ _ hrb;have z0:=frozen_of_row w1 (w0.heap.size+1) 0 _ _ hrb;have z1:=frozen_of_row w1 (w0.heap.size+1) 1 _ _ hrb;have z2:=frozen_of_row w1 (w0.heap.size+1) 2 _ _ hrb;simp at l0 l1 l2 y0 y1 y2;rw[hw1]at l0 l1 l2 y0 y1 y2 z0 z1 z2;clear hrb hko HB HV hle;go_wp2;rw[<-hw1];have hle:w0.heap.size<=w0.heap.size+1:=by omega
                  have h1:=heap_setCell_same w1 (w0.heap.size+1) 0 _ _ (.slice A1 m1 k1) HRW.out;have h2:=heap_setCell_same _ (w0.heap.size+1) 1 _ _ (.slice A2 m2 k2) h1;have h3:=heap_setCell_same _ (w0.heap.size+1) 2 _ _ (.slice A3 m3 k3) h2;obtain⟨x2,hx2⟩: ∃x2,x2=((w1.setCell ⟨w0.heap.size+1,0,none⟩ (.slice A1 m1 k1)).setCell ⟨w0.heap.size+1,1,none⟩ (.slice A2 m2 k2)).setCell ⟨w0.heap.size+1,2,none⟩ (.slice A3 m3 k3):=⟨_,rfl⟩;rw[<-hx2]at h3⊢;have ho: ∀k,k≠w0.heap.size+1->x2.heap[k]? =w1.heap[k]? :=fun k hk=>by rw[hx2,heap_setCell_other _ _ _ _ hk,heap_setCell_other _ _ _ _ hk,heap_setCell_other _ _ _ _ hk]
                  have hbx:Below w0.heap.size w1 x2:=by
                    rw[hx2];exact(((Below.refl _ w1).setCell hle _).setCell hle _).setCell hle _
                  have H3:=Lib.hid h3;clear hx2 h1 h2 h3;refine bodyPost_ret (v:= .agg #[.slice A1 m1 k1, .slice A2 m2 k2, .slice A3 m3 k3]) ?_ rfl ⟨_,_,_,_,_,_,_,_,_,rfl,?_,?_,?_,HBW.out.trans hbx⟩
                  · exact results_cell_row rfl _ _ (w0.heap.size+1) _ _ _ _ rfl H3.out Tryz.underlying91 rfl (by kernel_rfl)
                  · rw[<-HF.out.1];exact other_own HOW.out.1 HRW.out (by decide) ho
                  · rw[<-HF.out.2.1];exact other_own HOW.out.2.1 HRW.out (by decide) ho
                  · rw[<-HF.out.2.2];exact other_own HOW.out.2.2 HRW.out (by decide) ho
end
end Go.Proofs.YtlfekmbalgkmeaaGreatDoor
