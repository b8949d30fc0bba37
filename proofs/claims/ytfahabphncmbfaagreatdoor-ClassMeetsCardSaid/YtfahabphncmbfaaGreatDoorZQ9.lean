import Derived.Test.YtfahabphncmbfaaGreatDoorZQ8
import Derived.Shelf.Abstract
import Derived.Test.YtfahabphncmbfaaGreatDoorChecked
set_option linter.all false
set_option maxRecDepth 100000
set_option maxHeartbeats 16000000
namespace Go.Proofs.YtfahabphncmbfaaGreatDoor
open Go.RowKit.Below renaming refl→Zl
open Bool renaming noConfusion→Zx,not_eq_true→ZF
open Go.Lib renaming hid→Zf
open List renaming append_assoc→Yr,getElem?_eq_getElem→Zh,length_append→Zq,length_cons→Ya,length_map→ZH,length_range→Yo,map_append→Yk,mem_of_getElem?→ZC,range→Zo,take_of_length_le→Z6
open Nat renaming le_refl→Zm,le_trans→ZK,not_lt_zero→Yj,zero_le→Zu
open Go.Proofs.Tryz renaming prog→Zg
open Go renaming execOp→Yae
open Go.Proofs.Tryz
def Zbs(fs ps:List (Int×Int×Int))(x:Nat):List Int:=(touL fs (x:Int)).map (fun k=>(Zap fs k).2.2)++ [(ps.getD x (0,0,0)).2.2]
def nst(fs:List (Int×Int×Int))(x:Nat):Nat:=(touL fs (x:Int)).length+1
theorem Zei(fs ps:List (Int×Int×Int))(x:Nat):(Zbs fs ps x).length=nst fs x:=by unfold Zbs nst;rw[Zq,ZH];rfl
def firN(fs:List (Int×Int×Int)):Nat->Nat
 |0=>0
 |x+1=>firN fs x+nst fs x
def lasN(fs:List (Int×Int×Int))(x:Nat):Nat:=firN fs x+nst fs x - 1
theorem ZjR(fs:List (Int×Int×Int))(x:Nat):1<=nst fs x:=by unfold nst;omega
theorem Zrg(fs:List (Int×Int×Int))(x:Nat):lasN fs x+1=firN fs (x+1):=by unfold lasN;rw[firN];have:=ZjR fs x;omega
theorem ZnC(fs:List (Int×Int×Int)):∀{a b:Nat},a<=b->firN fs a<=firN fs b:=fun{a b} hab=>by
  induction b with
  |zero=>simp[Nat.le_zero.mp hab]
  | succ b ih =>
    rcases Nat.lt_or_ge a (b+1)with h1|h1
    · have:=ih (by omega);rw[firN];omega
    · rw[show a=b+1 by omega];exact Zm _
def Zb5:Int->List Int->List Int
 |_,[]=> []
 |b,e::l=>(e - b)::Zb5 e l
theorem Zej:∀(b:Int) (l:List Int),(Zb5 b l).length=l.length
 |_,[]=>rfl
 |b,e::l=>by rw[Zb5,Ya,Ya,Zej e l]
def befE(l:List Int)(j:Nat):Int:=if j=0 then 0 else l.getD (j - 1) 0
theorem Zg9:∀(b:Int) (l:List Int) (j:Nat) (e:Int),l[j]?=some e->(Zb5 b l).take (j+1)=(Zb5 b l).take j++ [e - (if j=0 then b else l.getD (j - 1) 0)]
  |b, [],j,e,h=>by simp at h
  | b, x :: l, 0, e, h => by
    obtain rfl:x=e:=by simpa using h
    simp[Zb5]
  | b, x :: l, j + 1, e, h => by
    have ih:=Zg9 x l j e (by simpa using h);rw[Zb5,List.take_succ_cons,List.take_succ_cons,List.cons_append,ih];congr 2;rw[Zb (by omega:¬j+1=0)]
    cases j with
    |zero=>simp
    |succ j=>simp
def Zcw(n k:Nat):List (Int×Int):=(Zo (k - 1)).map fun i=>(((n+i:Nat):Int),((n+i+1:Nat):Int))
theorem ZlX(n:Nat):Zcw n 1= []:=rfl
theorem Zf5(n:Nat):Zcw n 0= []:=rfl
theorem ZjS(n k:Nat):Zcw n (k+2)=Zcw n (k+1)++ [(((n+k:Nat):Int),((n+k+1:Nat):Int))]:=by unfold Zcw;rw[show k+2 - 1=k+1 by omega,show k+1 - 1=k by omega,List.range_succ,Yk];rfl
theorem Zha(n k:Nat):(Zcw n k).length=k - 1:=by unfold Zcw;rw[ZH,Yo]
def ZeQ(x k:Nat):List (Int×Int):=(Zo k).map fun i=>((x:Int),((i:Nat):Int))
theorem ZlY(x k:Nat):ZeQ x (k+1)=ZeQ x k++ [((x:Int),((k:Nat):Int))]:=by unfold ZeQ;rw[List.range_succ,Yk];rfl
theorem ZiI(x k:Nat):(ZeQ x k).length=k:=by unfold ZeQ;rw[ZH,Yo]
def wPs(fs ps:List (Int×Int×Int)):Nat->List Int
 |0=> []
 |x+1=>wPs fs ps x++Zb5 0 (Zbs fs ps x)
def ePs(fs:List (Int×Int×Int)):Nat->List (Int×Int)
 |0=> []
 |x+1=>ePs fs x++Zcw (firN fs x) (nst fs x)
def pPs(fs:List (Int×Int×Int)):Nat->List (Int×Int)
 |0=> []
 |x+1=>pPs fs x++ZeQ x (nst fs x)
theorem ZcT(fs ps:List (Int×Int×Int)):∀x,(wPs fs ps x).length=firN fs x
 |0=>rfl
 |x+1=>by rw[wPs,Zq,ZcT fs ps x,Zej,Zei,firN]
theorem ZhM(fs:List (Int×Int×Int)):∀x,(pPs fs x).length=firN fs x
 |0=>rfl
 |x+1=>by rw[pPs,Zq,ZhM fs x,ZiI,firN]
theorem ZhN(fs:List (Int×Int×Int)):∀x,(ePs fs x).length+x=firN fs x
 |0=>rfl
 |x+1=>by rw[ePs,Zq,Zha,firN];have:=ZhN fs x;have:=ZjR fs x;omega
def edgN(fs:List (Int×Int×Int))(e:Int×Int):Int×Int:=(((lasN fs e.1.toNat:Nat):Int),((firN fs e.2.toNat:Nat):Int))
def begN(fs:List (Int×Int×Int))(k:Nat):Nat:=firN fs (Zap fs k).2.1.toNat+(touL fs (Zap fs k).2.1).idxOf k+1
def futN(fs:List (Int×Int×Int))(k:Nat):Int×Int:=(((lasN fs (Zap fs k).1.toNat:Nat):Int),((begN fs k:Nat):Int))
def barN(fs:List (Int×Int×Int))(n:Nat)(b:List Int×List Int):List (Int×Int):=(b.1.map fun i=>(((lasN fs i.toNat:Nat):Int),((n:Nat):Int)))++(b.2.map fun i=>(((n:Nat):Int),((firN fs i.toNat:Nat):Int)))
def bEs(fs:List (Int×Int×Int))(bs:List (List Int×List Int))(n:Nat):Nat->List (Int×Int)
 |0=> []
 |j+1=>bEs fs bs n j++barN fs (n+j) (bs.getD j ([],[]))
def lowW(T:Task):List Int:=wPs T.futures T.parts T.parts.length++List.replicate T.bars.length 1
def lowP(T:Task):List (Int×Int):=pPs T.futures T.parts.length++(Zo T.bars.length).map fun j=>(((-1:Int)),((j:Nat):Int))
def lowE(T:Task):List (Int×Int):=((ePs T.futures T.parts.length++T.edges.map (edgN T.futures))++(Zo T.futures.length).map (futN T.futures))++bEs T.futures T.bars (firN T.futures T.parts.length) T.bars.length
open Go.RowKit Go.Maps
def Zrh(gb b1:Nat)(vP:Value)(x N:Nat):Nat->Value->World->Prop
 |0,v,_=>v=.pointer (some ⟨gb,0,none⟩)
 |1,v,_=>v=.pointer (some ⟨gb,0,none⟩)
 |2,v,_=>v=.pointer (some ⟨gb,3,none⟩)
 |3,v,_=>v=.map (some b1)
 |4,v,_=>v=.int .i64 (x:Int)
 |5,v,_=>v=.pointer (some ⟨gb,0,none⟩)
 |6,v,_=>v=.pointer (some ⟨gb,0,none⟩)
 |7,v,_=>v=.pointer (some ⟨gb,0,none⟩)
 |8,v,_=>v=.pointer (some ⟨gb,2,none⟩)
 |9,v,_=>v=vP
 |10,v,_=>v=.int .i64 (N:Int)
 |_,_,_=>True
theorem ZnD{gb b1:Nat}{vP:Value}{x N:Nat}:∀(k:Nat) (v:Value) (w w':World),Zrh gb b1 vP x N k v w->Zrh gb b1 vP x N k v w'
 |0,_,_,_,h|1,_,_,_,h|2,_,_,_,h|3,_,_,_,h|4,_,_,_,h|5,_,_,_,h|6,_,_,_,h|7,_,_,_,h|8,_,_,_,h|9,_,_,_,h|10,_,_,_,h=>h
 |_+11,_,_,_,_=>trivial
theorem OwnP.slice{w:World}{base:Nat}{v:Value}{ps:List (Int×Int)}(h:OwnP w base v ps):∃A c,v=.slice A ps.length c:=by
 rcases h.2 with⟨rfl,hn⟩|⟨g,cap,cur,rfl,_⟩
 ·exact⟨none,0,by rw[hn]⟩
 ·exact⟨_,_,rfl⟩
theorem Zsi{o:Oper}{a:Act}{x x':World}{K:Act->World->Prop}{Q:Exit->Act->World->Prop}{m k v:Operand}{b:Nat}{kx vx:Value}(hop:o.op=.mapUpdate 188 m k v)(hdst:o.dst=none)(hm:a.eval m=.map (some b))(hk:a.eval k=kx)(hv:a.eval v=vx)
  (hr:(Instr.mapUpdate 188 (.map (some b)) kx vx).run Zg x=.ok () x')(hK:K a x'):o.wp Zg a x K Q:=by
 unfold Oper.wp;simp[Yae,hop,hm,hk,hv,hr,Result.andThen];rw[Oper.upon_skip,hdst];exact hK
theorem OwnI.at_{w:World}{base m c j:Nat}{A:Option Addr}{l:List Int}(h:OwnI w base (.slice A m c) l)(hj:j<l.length):∃b off,A=some ⟨b,off,none⟩/\w.cell? ⟨b,off+j,none⟩=some (.int .i64 (l.getD j 0)):=by obtain⟨A',c',e,hI⟩:=h.slice;injection e with e1 _ _;subst e1;obtain⟨b,off,e2,_,hc⟩:=hI (by omega);exact⟨b,off,e2,hc j hj⟩
theorem Tells.last{D:DataW Unit}{f:Nat->Nat}{x v:Nat}(h:Tells D f x)(hk:D.atKey (.int .i64 (x:Int)) (.lit (.int .i64 0))=.lit (.int .i64 ((v:Nat):Int)))(hv:v=f x):Tells D f (x+1):=fun k hk'=>by
 by_cases e:k=x
 ·subst e
  rw[hk,hv]
 ·exact h k (by omega)
theorem ZnE(base gb b1 b2 n1 n2:Nat)(D1 D2:DataW Unit)(vW vE vP:Value)(W:List Int)(E P:List (Int×Int))(x m N c:Nat)(A:Option Addr)(l:List Int)(f1 f2:Nat->Nat)(w:World)(hx:x<=400)(hm:l.length=m)(hm1:1<=m)(hm9:m<=400)(hz:∀z∈l,0<=z/\z<=100000)(hW:W.length=N)(hP:P.length=N)(hN:N<=400)(hE:E.length<=400)(hn1:n1<=1000)(hn2:n2<=1000)
    (h:Gl base gb b1 b2 n1 n2 D1 D2 vW vE vP W E P w)(hX:Side w base vW (.slice A m c) l)(h1:Tells D1 f1 x)(h2:Tells D2 f2 x)(e1:f1 x=N)(e2:f2 x=N+m - 1):
    Calls Zg 136 #[.pointer (some ⟨gb,0,none⟩),.int .i64 (x:Int),.slice A m c] w fun e w'=>e=.returned (.tuple #[])/\∃n1' n2' D1' D2' vW' vE' vP',Gl base gb b1 b2 n1' n2' D1' D2' vW' vE' vP' (W++Zb5 0 l) (E++Zcw N m) (P++ZeQ x m) w'/\Tells D1' f1 (x+1)/\Tells D2' f2 (x+1)/\n1'<=n1+1/\n2'<=n2+m/\Below base w w':=by
  have hbw:base<=w.heap.size:=by have:=h.le;have:=h.lt;omega
  have H:=Zf h;have HX:=Zf hX;have HT1:=Zf h1;have HT2:=Zf h2;have HL:=Zf hm;have HZ:=Zf hz;have HWL:=Zf hW;have HPL:=Zf hP;have HE1:=Zf e1;have HE2:=Zf e2;clear h hX h1 h2 hm hz hW hP e1 e2;go_enter func136,ntmps136;go_wp2_with fail;refine Zar 11 11 [10,11,12,13,14,15,16,17,18,19,20] (by kernel_rfl) (by kernel_rfl) (by intro d hd;simp at hd⊢;omega) (fun y=>Below w.heap.size w y) (fun _=>True) (fun y z=>Below y.heap.size y z) (Zrh gb b1 vP x N)
    (fun _ _ h=>h) (fun y z h hr=>h.trans (hr.mono h.size)) (fun _ _ h _=>trivial) (fun k v y z _ h _=>ZnD k v y z h) (fun v y z h _=>trivial) (Zl _ _).drew trivial ?hstep ?hlast
  case hstep=>
    intro j o hj ho ρ y hI hA hd hJ;have h0:ρ (.tmp 0)=.pointer (some ⟨gb,0,none⟩):=hA.tmp 0 (by decide);have h1:ρ (.tmp 1)=.int .i64 (x:Int):=hA.tmp 1 (by decide);have hG:=H.out.below hI;have c2:y.cell? ⟨gb,2,none⟩=some vP:=by rw[hG.cell];rfl
    have c3:y.cell? ⟨gb,3,none⟩=some (.map (some b1)):=by rw[hG.cell];rfl
    match j,hj with
    | 0, _ =>cases ho;exact⟨.pointer (some ⟨gb,0,none⟩),y,by simp[Yae,h0,go_sem],rfl,Zl _ _⟩
    | 1, _ =>
      cases ho;have f:ρ (.tmp 10)=.pointer (some ⟨gb,0,none⟩):=hd ⟨0,.data⟩ (by simp) (by rfl)
      exact⟨.pointer (some ⟨gb,0,none⟩),y,by simp[Yae,f,go_sem],rfl,Zl _ _⟩
    | 2, _ =>
      cases ho;have f:ρ (.tmp 11)=.pointer (some ⟨gb,0,none⟩):=hd ⟨1,.data⟩ (by simp) (by rfl)
      exact⟨.pointer (some ⟨gb,3,none⟩),y,by simp[Yae,f,go_sem],rfl,Zl _ _⟩
    | 3, _ =>
      cases ho;have f:ρ (.tmp 12)=.pointer (some ⟨gb,3,none⟩):=hd ⟨2,.data⟩ (by simp) (by rfl)
      exact⟨.map (some b1),y,by simp[Yae,f,c3,go_sem],rfl,Zl _ _⟩
    | 4, _ =>cases ho;exact⟨.int .i64 (x:Int),y,by simp[Yae,h1,go_sem],rfl,Zl _ _⟩
    | 5, _ =>cases ho;exact⟨.pointer (some ⟨gb,0,none⟩),y,by simp[Yae,h0,go_sem],rfl,Zl _ _⟩
    | 6, _ =>
      cases ho;have f:ρ (.tmp 15)=.pointer (some ⟨gb,0,none⟩):=hd ⟨5,.data⟩ (by simp) (by rfl)
      exact⟨.pointer (some ⟨gb,0,none⟩),y,by simp[Yae,f,go_sem],rfl,Zl _ _⟩
    | 7, _ =>
      cases ho;have f:ρ (.tmp 16)=.pointer (some ⟨gb,0,none⟩):=hd ⟨6,.data⟩ (by simp) (by rfl)
      exact⟨.pointer (some ⟨gb,0,none⟩),y,by simp[Yae,f,go_sem],rfl,Zl _ _⟩
    | 8, _ =>
      cases ho;have f:ρ (.tmp 17)=.pointer (some ⟨gb,0,none⟩):=hd ⟨7,.data⟩ (by simp) (by rfl)
      exact⟨.pointer (some ⟨gb,2,none⟩),y,by simp[Yae,f,go_sem],rfl,Zl _ _⟩
    | 9, _ =>
      cases ho;have f:ρ (.tmp 18)=.pointer (some ⟨gb,2,none⟩):=hd ⟨8,.data⟩ (by simp) (by rfl)
      exact⟨vP,y,by simp[Yae,f,c2,go_sem],rfl,Zl _ _⟩
    | 10, _ =>
      cases ho;have f:ρ (.tmp 19)=vP:=hd ⟨9,.data⟩ (by simp) (by rfl)
      obtain⟨AP,cP,eP⟩:=hG.hP.slice;rw[HPL.out]at eP;exact⟨.int .i64 (N:Int),y,by simp[Yae,resolve,invoke,builtin,f,eP,go_sem,Result.andThen],rfl,Zl _ _⟩
    |j+11,hk=>omega
  case hlast=>
    intro o ho vals y hI hF;cases ho;have q3:vals 13=.map (some b1):=hF 3 (by decide);have q4:vals 14=.int .i64 (x:Int):=hF 4 (by decide);have q10:vals 20=.int .i64 (N:Int):=hF 10 (by decide);have hG:=H.out.below hI;obtain⟨y2,hu,hm2,hg2⟩:=Zno hG.m1 (by omega) (x:=(x:Int)) (v:=(N:Int)) (by omega) (by omega) (by omega) (by omega);have HG:=Zf (hG.mapped1 hg2 hm2);have HS:=Zf ((HX.out.below hI).mapped hG.m1 hg2);have HB:=Zf ((hI.mono hbw).trans (Zdi hG.le1 hg2 (ZK hbw hI.size)));have HD1:=Zf (HT1.out.put hG.m1.isMap HE1.out.symm);refine Zsi rfl rfl q3 q4 q10 hu ?_;clear hu hm2 hg2 hG hI hF q3 q4 q10 H HX HT1 HE1;simp only[ZaW,Zba,List.contains_cons,List.contains_nil,Nat.reduceBEq,Bool.or_false,Bool.false_or,Bool.or_true,Bool.true_or,cond_true,cond_false,Nat.zero_add,Nat.reduceAdd];obtain⟨D1',hD1⟩:∃D,D=D1.put (.int .i64 (x:Int)) (.lit (.int .i64 (N:Int))):=⟨_,rfl⟩;rw[<-hD1]at HG HD1;clear hD1;have hG0:Hid (Gl base gb b1 b2 (n1+1) n2 D1' D2 vW vE vP (W++(Zb5 0 l).take 0) (E++Zcw N 0) (P++ZeQ x 0) y2):=Zf (by have h:=HG.out;simpa[Zf5,ZeQ]using h);clear HG;go_wp2;go_loopw [6,23] (fun bv iv wr=>∃(j nz:Nat) (bb:Int) (Dz:DataW Unit) (uW uE uP:Value),j<=m/\bv=.int .i64 bb/\iv=.int .i64 (j:Int)/\0<=bb/\bb<=100000/\nz<=n2+j/\Hid (bb=befE l j)/\Hid (Gl base gb b1 b2 (n1+1) nz D1' Dz uW uE uP (W++(Zb5 0 l).take j) (E++Zcw N j) (P++ZeQ x j) wr)/\Hid (Side wr base uW (.slice A m c) l)/\Hid (Tells Dz f2 x)/\Hid (0<j->Dz.atKey (.int .i64 (x:Int)) (.lit (.int .i64 0))=.lit (.int .i64 ((N+j - 1:Nat):Int)))/\Hid (Below base w wr)) (fun _ iv _=>m - (intOf iv).toNat)
    case atStart=>exact⟨0,n2,0,D2,vW,vE,vP,Zu _,rfl,rfl,by omega,by omega,by omega,Zf rfl,hG0,HS,HT2,Zf (fun h=>absurd h (by omega)),HB⟩
    case round=>
      obtain⟨j,nz,bb,Dz,uW,uE,uP,hj,rfl,rfl,hb0,hb9,hnz,HBB,HGJ,HSJ,HTJ,HKJ,HBJ⟩:=hrel;clear hG0 HS HT2 HB;by_cases hlt:j<m
      · obtain⟨z,he⟩:∃z,l[j]?=some z:=⟨_,Zh (by rw[HL.out];exact hlt)⟩;have hz:=HZ.out z (ZC he);obtain⟨hz0,hz9⟩:=hz;have HST:=Zf (Zg9 0 l j z he);have hgd:l.getD j 0=z:=by rw[List.getD_eq_getElem?_getD,he];rfl
        obtain⟨eb,eo,eA2,hq⟩:=HSJ.out.own.at_ (j:=j) (by rw[HL.out];exact hlt);rw[hgd]at hq;subst eA2;have HGD:=Zf hgd;obtain⟨nn,hnn⟩:∃nn,nn=N+j:=⟨_,rfl⟩;have lW:(W++(Zb5 0 l).take j).length=N+j:=by rw[Zq,HWL.out,List.length_take,Zej,HL.out];omega
        have lP:(P++ZeQ x j).length=nn:=by rw[Zq,HPL.out,ZiI,hnn]
        have lE:(E++Zcw N j).length<=900:=by rw[Zq,Zha];omega
        have CN:=ZiB base gb b1 b2 (n1+1) nz D1' Dz uW uE uP (W++(Zb5 0 l).take j) (E++Zcw N j) (P++ZeQ x j) (x:Int) (j:Int) (z - bb) wr _ _ (by omega) (by omega) HGJ.out HSJ.out;rw[lP]at CN;have HCN:=Zf CN;have HNN:=Zf hnn;have hn9:nn<=900:=by omega
        have HLE:=Zf lE;clear CN he hgd lW lP lE hnn;go_wp2_with fail;refine HCN.out.mono ?_
        rintro e w3 ⟨rfl,uW',uP',hG3,hS3,b3,_⟩;have HG3:=Zf hG3;have HS3:=Zf hS3;have HB3:=Zf (HBJ.out.trans b3);have c4:=hG3.cell 4;simp at c4;clear hG3 hS3 b3 HCN hq HGJ HSJ HBJ;cases j with
        | zero =>
          obtain⟨v0,st,wx,wy,en1,en2,hm2,hg2⟩:=ZiC HG3.out.m2 (by omega) (x:=(x:Int)) (v:=(nn:Int)) (by omega) (by omega) (by omega) (by omega);have HG4:=Zf (HG3.out.mapped2 hg2 hm2);have HS4:=Zf (HS3.out.mapped HG3.out.m2 hg2);have HB4:=Zf (HB3.out.trans (Zdi HG3.out.le2 hg2 (ZK hbw HB3.out.size)));have HT4:=Zf (HTJ.out.over (v:=nn));have HK4:Hid ((Dz.put (.int .i64 (x:Int)) (.lit (.int .i64 (nn:Int)))).atKey (.int .i64 (x:Int)) (.lit (.int .i64 0))=.lit (.int .i64 (nn:Int))):=Zf (atKey_put_same HG3.out.m2.isMap (by simp[WideAt.IsKeyLit]) _ _);clear hm2 hg2 HG3 HS3 HB3;go_wp2;go_roundw
          case rel=>exact⟨1,nz+1,z,_,uW',uE,uP',hlt,rfl,by go_num,hz0,hz9,by omega,Zf HGD.out.symm,Zf (by have h:=HG4.out;rw[HST.out];have hb:=HBB.out;simp only[befE,if_true]at hb;rw[hb]at h;simpa[Yr,ZlX,Zf5,ZeQ]using h),HS4,HT4,Zf (fun _=>by rw[HK4.out,HNN.out];simp),HB4⟩
          case measure=>simp[intOf];omega
        | succ i =>
          have CE:=Zee base gb b1 b2 (n1+1) nz D1' Dz uW' uE uP' _ (E++Zcw N (i+1)) _ ((nn:Int) - 1) (nn:Int) w3 _ _ HLE.out HG3.out HS3.out;have HCE:=Zf CE;clear CE;go_wp2_with fail;refine HCE.out.mono ?_;rintro e w4 ⟨rfl,uE',hG4,hS4,b4,_⟩;obtain⟨v0,st,wx,wy,en1,en2,hm2,hg2⟩:=ZiC hG4.m2 (by omega) (x:=(x:Int)) (v:=(nn:Int)) (by omega) (by omega) (by omega) (by omega);have HG5:=Zf (hG4.mapped2 hg2 hm2);have HS5:=Zf (hS4.mapped hG4.m2 hg2);have HB5:=Zf ((HB3.out.trans b4).trans (Zdi hG4.le2 hg2 (ZK hbw (HB3.out.trans b4).size)));have HT5:=Zf (HTJ.out.over (v:=nn));have HK5:Hid ((Dz.put (.int .i64 (x:Int)) (.lit (.int .i64 (nn:Int)))).atKey (.int .i64 (x:Int)) (.lit (.int .i64 0))=.lit (.int .i64 (nn:Int))):=Zf (atKey_put_same hG4.m2.isMap (by simp[WideAt.IsKeyLit]) _ _);obtain⟨Dq,hDq⟩:∃D,D=Dz.put (.int .i64 (x:Int)) (.lit (.int .i64 (nn:Int))):=⟨_,rfl⟩;rw[<-hDq]at HG5 HT5 HK5;have c4':=hG4.cell 4;simp at c4';clear hDq hm2 hg2 hG4 hS4 b4 HG3 HS3 HB3 HCE c4;go_wp2;go_roundw
          case rel=>exact⟨i+2,nz+1,z,_,uW',uE',uP',hlt,rfl,by go_num,hz0,hz9,by omega,Zf HGD.out.symm,Zf (by have h:=HG5.out;have hn:=HNN.out;rw[HST.out,ZjS,ZlY];have hb:=HBB.out;unfold befE at hb;rw[hb]at h;rw[show((nn:Nat):Int) - 1=((N+i:Nat):Int) by omega,show((nn:Nat):Int)=((N+i+1:Nat):Int) by omega]at h;simpa[Yr]using h),HS5,HT5,Zf (fun _=>by rw[HK5.out,HNN.out];simp),HB5⟩
          case measure=>simp[intOf];omega
      · obtain rfl:m=j:=by omega
        have htk:(Zb5 0 l).take m=Zb5 0 l:=Z6 (by rw[Zej,HL.out];exact Zm _);have hG:=HGJ.out;rw[htk]at hG;have HGE:=Zf hG;have HTE:=Zf (HTJ.out.last (HKJ.out (by omega)) HE2.out.symm);clear htk hG;go_wp2;go_end0;exact⟨rfl,_,_,_,_,_,_,_,HGE.out,HD1.out,HTE.out,Zm _,hnz,HBJ.out⟩
open Go
theorem Za1{f:Nat}{fn:Func}{c:Code}(hf:Zg.funcs[f]? =some fn)(hname:(fn.name== "runtime.NumGoroutine")=false)(hb:fn.body=some c): ∀args w,(callFunc f args).run Zg w= .ok (.enter f args) w:=enters_of hf hname hb
theorem ZaY(n a b:Int)(r:Bool)(hr:r=true↔a<=n/\n<=b)(w:World):
  Calls Zg 183 #[.int .i64 n,.int .i64 a,.int .i64 b] w fun e w'=>e=.returned (.bool r)/\w=w':=by
 by_cases h1:a<=n
 ·by_cases h2: n <= b
  ·obtain rfl: r = true:=hr.mpr ⟨h1,h2⟩
   clear hr;go_enter func183,ntmps183;go_wp2;go_ret;exact⟨rfl,rfl⟩
  ·obtain rfl: r = false:=by rw [<- ZF]; exact fun h => h2 (hr.mp h).2
   clear hr;go_enter func183,ntmps183;go_wp2;go_ret;exact⟨rfl,rfl⟩
 ·obtain rfl: r = false:=by rw [<- ZF]; exact fun h => h1 (hr.mp h).1
  clear hr;go_enter func183,ntmps183;go_wp2;go_ret;exact⟨rfl,rfl⟩
theorem Zcc(n:Int)(c:Nat)(hc:c<=1000)(r:Bool)(hr:r=true↔0<=n/\n<c)(w:World):
  Calls Zg 219 #[.int .i64 n,.int .i64 c] w fun e w'=>e=.returned (.bool r)/\w=w':=by
 have C:=Zf (ZaY n 0 ((c:Int) - 1) r (by rw[hr];omega));clear hr;go_enter func219,ntmps219;go_wp2_with fail;refine(C.out _).mono ?_;rintro e w' ⟨rfl,rfl⟩;go_wp2;go_ret;exact⟨rfl,rfl⟩
theorem Zcx(a b:Int)(c:Nat)(hc:c<=1000)(r:Bool)(hr:r=true↔(0<=a/\a<c)/\(0<=b/\b<c)/\a≠b)(w:World):
  Calls Zg 187 #[.int .i64 a,.int .i64 b,.int .i64 c] w fun e w'=>e=.returned (.bool r)/\w=w':=by
 by_cases h1:0<=a/\a<c
 ·have C1:=Zf (Zcc a c hc true ⟨fun _ => h1,fun _ => rfl⟩)
  by_cases h2:0<=b/\b<c
  ·have C2:=Zf (Zcc b c hc true ⟨fun _ => h2,fun _ => rfl⟩)
   by_cases h3:a=b
   ·obtain rfl: r = false:=by rw [<- ZF]; exact fun h => (hr.mp h).2.2 h3
    have hb:(a !=b)=false:=by simpa using h3
    clear hr h1 h2 h3 hc;go_enter func187,ntmps187;go_wp2_with fail;refine(C1.out _).mono ?_;rintro e w' ⟨rfl,rfl⟩;go_wp2_with fail;refine(C2.out _).mono ?_;rintro e w' ⟨rfl,rfl⟩;go_wp2;go_ret;exact⟨rfl,rfl⟩
   ·obtain rfl: r = true:=hr.mpr ⟨h1,h2,h3⟩
    have hb:(a !=b)=true:=by simpa using h3
    clear hr h1 h2 h3 hc;go_enter func187,ntmps187;go_wp2_with fail;refine(C1.out _).mono ?_;rintro e w' ⟨rfl,rfl⟩;go_wp2_with fail;refine(C2.out _).mono ?_;rintro e w' ⟨rfl,rfl⟩;go_wp2;go_ret;exact⟨rfl,rfl⟩
  ·have C2:=Zf (Zcc b c hc false ⟨fun q => Zx q,fun q => absurd q h2⟩)
   obtain rfl:r=false:=by rw[<-ZF];exact fun h=>h2 (hr.mp h).2.1
   clear hr h1 h2 hc;go_enter func187,ntmps187;go_wp2_with fail;refine(C1.out _).mono ?_;rintro e w' ⟨rfl,rfl⟩;go_wp2_with fail;refine(C2.out _).mono ?_;rintro e w' ⟨rfl,rfl⟩;go_wp2;go_ret;exact⟨rfl,rfl⟩
 ·have C1:=Zf (Zcc a c hc false ⟨fun q => Zx q,fun q => absurd q h1⟩)
  obtain rfl:r=false:=by rw[<-ZF];exact fun h=>h1 (hr.mp h).1
  clear hr h1 hc;go_enter func187,ntmps187;go_wp2_with fail;refine(C1.out _).mono ?_;rintro e w' ⟨rfl,rfl⟩;go_wp2;go_ret;exact⟨rfl,rfl⟩
section
variable {P: Option Addr}{np pc: Nat}{E: Option Addr}{ne ec: Nat}{F: Option Addr}{nf fc: Nat}{R: Option Addr}{nr rc: Nat}{p q: Int}
theorem ZlZ(r:Bool)(hr:r=true↔1<=np/\np<=16/\ne<=48/\nf<=16/\nr<=4)(w:World)(h0:np<=1000)(h1:ne<=1000)(h2:nf<=1000)(h3:nr<=1000):
  Calls Zg 130 #[.agg #[.int .i64 p,.int .i64 q,.slice P np pc,.slice E ne ec,.slice F nf fc,.slice R nr rc]] w fun e w'=>e=.returned (.bool r)/\Below w.heap.size w w':=by
 by_cases k1:1<=np/\np<=16
 ·have C:=Zf (ZaY np 1 16 true ⟨fun _ => by omega,fun _ => rfl⟩)
  by_cases k:ne<=48/\nf<=16/\nr<=4
  ·obtain rfl: r = true:=hr.mpr ⟨k1.1,k1.2,k⟩
   obtain⟨g1,g2,g3⟩:=k;clear hr k1 h0 h1 h2 h3;go_enter func130,ntmps130;go_wp2_with fail;refine(C.out _).mono ?_;rintro e w' ⟨rfl,rfl⟩;go_wp2;go_ret;exact⟨by first|rfl|(refine congrArg (fun b=>Ending.returned (Value.bool b)) (?_:decide _=_);rw[decide_eq_true_iff];omega),Zaa _⟩
  ·obtain rfl: r = false:=by rw [<- ZF]; exact fun h => k (hr.mp h).2.2
   rcases(show 48<ne\/(ne<=48/\16<nf)\/(ne<=48/\nf<=16/\4<nr) by omega)with g1|⟨g1,g2⟩|⟨g1,g2,g3⟩
   all_goals
    clear hr k1 k;go_enter func130,ntmps130;go_wp2_with fail;refine(C.out _).mono ?_;rintro e w' ⟨rfl,rfl⟩;go_wp2;go_ret;exact⟨by first|rfl|(refine congrArg (fun b=>Ending.returned (Value.bool b)) (?_:decide _=_);rw[decide_eq_false_iff_not];omega),Zaa _⟩
 ·have C:=Zf (ZaY np 1 16 false ⟨fun q => Zx q,fun q => absurd q (by omega)⟩)
  obtain rfl:r=false:=by rw[<-ZF];exact fun h=>k1 ⟨(hr.mp h).1,(hr.mp h).2.1⟩
  clear hr k1 h0 h1 h2 h3;go_enter func130,ntmps130;go_wp2_with fail;refine(C.out _).mono ?_;rintro e w' ⟨rfl,rfl⟩;go_wp2;go_ret;exact⟨rfl,Zaa _⟩
theorem ZpG(p:Int):∃k:Int,∀w:World,Tab64 w->Calls Zg 129 #[.int .i64 p] w fun e w'=>e=.returned (.tuple #[.int .i64 k,.bool (ZlJ p)])/\w=w':=by
 by_cases h:ZlJ p=true
 ·rw [h]
  obtain⟨k,hk,rfl⟩:=isTwo_iff.mp h;exact⟨k,Zjp k hk⟩
 ·rw [ZF] at h
  rw[h];refine⟨0,fun w _=>ZmU p w fun k hk e=> ?_⟩;rw[isTwo_iff.mpr ⟨k,hk,e⟩]at h;cases h
theorem ZnF(w:World)(hT:DTab w):
    Calls Zg 131 #[.agg #[.int .i64 p,.int .i64 q,.slice P np pc,.slice E ne ec,.slice F nf fc,.slice R nr rc]] w fun e w'=>e=.returned (.bool (Zjq p q))/\Below w.heap.size w w':=by
  obtain⟨k,hC⟩:=ZpG p;have C:=Zf hC;have HT:=Zf (fun o=>Tab64.via hT (Zaa (w:=w) o))
  clear hC hT;unfold Zjq;cases ht:ZlJ p with
  | false =>
    rw[ht]at C;clear ht;go_enter func131,ntmps131;go_wp2_with fail;refine(C.out _ (HT.out _)).mono ?_
    rintro e w' ⟨rfl,rfl⟩;go_wp2;go_ret;exact⟨rfl,Zaa _⟩
  | true =>
    rw[ht]at C;clear ht;by_cases h1:p<=4096
    · rw[Ze h1];by_cases h2:1<=q/\q<=p
      · rw[Ze h2.1,Ze h2.2];have D:=Zf (ZaY q 1 p true ⟨fun _=>h2,fun _=>rfl⟩);clear h2;go_enter func131,ntmps131;go_wp2_with fail;refine(C.out _ (HT.out _)).mono ?_;rintro e w' ⟨rfl,rfl⟩;go_wp2_with fail;refine(D.out _).mono ?_;rintro e w' ⟨rfl,rfl⟩;go_wp2;go_ret;exact⟨rfl,Zaa _⟩
      · rw[show(true&&true&&decide (1<=q)&&decide (q<=p))=false by
          rcases(show¬1<=q\/ ¬q<=p by omega)with h|h
          · rw[Zd h];rfl
          · rw[Zd h];cases decide (1<=q)<;>rfl]
        have D:=Zf (ZaY q 1 p false ⟨fun x=>Zx x,fun x=>absurd x h2⟩);clear h2;go_enter func131,ntmps131;go_wp2_with fail;refine(C.out _ (HT.out _)).mono ?_;rintro e w' ⟨rfl,rfl⟩;go_wp2_with fail;refine(D.out _).mono ?_;rintro e w' ⟨rfl,rfl⟩;go_wp2;go_ret;exact⟨rfl,Zaa _⟩
    · rw[Zd h1];go_enter func131,ntmps131;go_wp2_with fail;refine(C.out _ (HT.out _)).mono ?_;rintro e w' ⟨rfl,rfl⟩;go_wp2;go_ret;exact⟨rfl,Zaa _⟩
end
theorem Zsj(A:Option Addr)(c n:Nat)(l:List Int)(x:Int)(w:World)(B:Nat)(hn:l.length=n)(hl:n<=1000)(hI:Ints w B A l):
  Calls Zg 147 #[.slice A n c,.int .i64 x] w fun e w'=>∃r,e=.returned (.int .i64 r)/\w=w'/\(0<=r↔x∈l):=by
 have HN:=Zf hn;have HI:=Zf hI;clear hn hI;go_enter func147,ntmps147;go_wp2;go_loop [8] (fun v=>∃k:Nat,k<=n/\v=.int .i64 k/\Hid (x∉l.take k)) (fun v=>n - (intOf v).toNat)
 case atStart=>exact⟨0,Zu _,rfl,Zf (by simp)⟩
 case round=>
  obtain⟨k,hk,rfl,HF⟩:=hrel;by_cases hlt:k<n
  ·obtain ⟨bk,off,z,rfl,hbg,hek,d1⟩:=HI.out.at_ (k:=k) (by rw [HN.out]; exact hlt)
   have HEK:=Zf hek;clear hek;by_cases hx:x=z
   ·have HX:=Zf hx
    have hb:(x==z)=true:=by simpa using hx
    clear hx;go_wp2;go_ret;exact⟨_,rfl,rfl,⟨fun _=>by rw[HX.out];exact ZC HEK.out,fun _=>by omega⟩⟩
   ·have HX:=Zf hx
    have hb:(x==z)=false:=by simpa using hx
    clear hx;go_wp2;go_round
    case rel=>exact⟨k+1,by omega,by go_num,Zf (by
     rw[List.take_add_one,HEK.out,List.mem_append];rintro(h|h)
     ·exact HF.out h
     ·exact HX.out (by simpa using h))⟩
    case measure=>simp[intOf];omega
  ·have e: k = n:=by omega
   subst e;go_wp2;go_ret;refine⟨_,rfl,rfl,⟨fun h=>Za h,fun h=> ?_⟩⟩;have:=HF.out;rw[Z6 (by rw[HN.out];exact Zm _)]at this;exact absurd h this
theorem Zsk(A:Option Addr)(c n:Nat)(l:List Int)(x:Int)(r:Bool)(hr:r=true↔x∈l)(w:World)(B:Nat)(hn:l.length=n)(hl:n<=1000)(hI:Ints w B A l):
    Calls Zg 92 #[.slice A n c,.int .i64 x] w fun e w'=>e=.returned (.bool r)/\w=w':=by
  have C:=Zsj A c n l x w B hn hl hI;have HR:=Zf hr;clear hn hI hr;go_enter func92,ntmps92;go_wp2_with fail;refine C.mono ?_
  rintro e w1 ⟨v,rfl,rfl,hv⟩;have HV:=Zf hv;clear hv;cases r with
  | true =>have hg:0<=v:=HV.out.mpr (HR.out.mp rfl);go_wp2;go_ret;exact⟨rfl,rfl⟩
  | false =>
    have hg:decide (0<=v)=false:=by rw[decide_eq_false_iff_not];exact fun h=>absurd (HR.out.mpr (HV.out.mp h)) (by simp)
    go_wp2;go_ret;exact⟨rfl,rfl⟩
theorem ZpH(A:Option Addr)(c n:Nat)(es:List (Int×Int×Int))(g:Nat)(lb:Array Value)(eg:∀args w,(callFunc g args).run Zg w=.ok (.enter g args) w)(p:Nat->Bool)(I:Nat->World->Prop)(B:Nat)(hn:es.length=n)(hl:n<=1000)
    (hT:∀k W,I k W->Trips W B A es)
    (hp:∀k x y z W,es[k]?=some (x,y,z)->I k W->Calls Zg g (#[.agg #[.int .i64 x,.int .i64 y,.int .i64 z]]++lb) W fun e w'=>e=.returned (.bool (p k))/\I (k+1) w')
    (w:World)(h0:I 0 w):
    Calls Zg 218 #[.slice A n c,.func (.func g) #[] lb] w fun e w'=>∃r k,e=.returned (.int .i64 r)/\I k w'/\(0<=r↔ ∃j,j<n/\p j=true):=by
  have HT:=Zf hT;have HP:=Zf hp;have HN:=Zf hn;have H0:=Zf h0;clear hT hp hn h0;go_enter func218,ntmps218;go_wp2;go_loopw [8] (fun v wr=>∃k:Nat,k<=n/\v=.int .i64 k/\Hid (I k wr)/\Hid (∀j,j<k->p j=false)) (fun v _=>n - (intOf v).toNat)
  case atStart=>exact⟨0,Zu _,rfl,H0,Zf (fun j hj=>absurd hj (Yj _))⟩
  case round=>
    obtain⟨k,hk,rfl,HI,HF⟩:=hrel;clear H0;by_cases hlt:k<n
    · obtain⟨bk,off,x,y,z,rfl,hbg,hek,d1,d2,d3⟩:=(HT.out k wr HI.out).at_ (k:=k) (by rw[HN.out];exact hlt);have HEK:=Zf hek;have hcall:=HP.out k x y z wr hek HI.out;clear hek
      skip
      cases hq:p k with
      | true =>
        have HQ:=Zf hq;rw[hq]at hcall;clear hq;go_wp2_with(go_at_fn g;refine hcall.mono ?_;rintro e w' ⟨rfl,hb'⟩)
        go_ret;exact⟨_,k+1,rfl,hb',⟨fun _=>⟨k,hlt,HQ.out⟩,fun _=>by omega⟩⟩
      | false =>
        have HQ:=Zf hq;rw[hq]at hcall;clear hq;go_wp2_with(go_at_fn g;refine hcall.mono ?_;rintro e w' ⟨rfl,hb'⟩;have HB:=Zf hb';clear hb');go_roundw
        case rel=>exact⟨k+1,by omega,by go_num,HB,Zf (fun j hj=>by
          by_cases e:j=k
          · rw[e];exact HQ.out
          · exact HF.out j (by omega))⟩
        case measure=>simp[intOf];omega
    · have e:k=n:=by omega
      subst e;go_wp2;go_ret;exact⟨_,k,rfl,HI.out,⟨fun h=>Za h,fun⟨j,hj,hpj⟩=>by rw[HF.out j hj]at hpj;cases hpj⟩⟩
theorem ZpI(A:Option Addr)(c n:Nat)(es:List (Int×Int×Int))(g:Nat)(lb:Array Value)(eg:∀args w,(callFunc g args).run Zg w=.ok (.enter g args) w)(p:Nat->Bool)(I:Nat->World->Prop)(B:Nat)(hn:es.length=n)(hl:n<=1000)
    (hT:∀k W,I k W->Trips W B A es)
    (hp:∀k x y z W,es[k]?=some (x,y,z)->I k W->Calls Zg g (#[.agg #[.int .i64 x,.int .i64 y,.int .i64 z]]++lb) W fun e w'=>e=.returned (.bool (p k))/\I (k+1) w')
    (r:Bool)(hr:r=true↔ ∃j,j<n/\p j=true)(w:World)(h0:I 0 w):
    Calls Zg 184 #[.slice A n c,.func (.func g) #[] lb] w fun e w'=>e=.returned (.bool r)/\∃k,I k w':=by
  have C:=ZpH A c n es g lb eg p I B hn hl hT hp w h0;have HR:=Zf hr;clear hT hp hn h0 hr;go_enter func184,ntmps184;go_wp2_with fail;refine C.mono ?_
  rintro e w1 ⟨v,k,rfl,hI,hv⟩;have HI:=Zf hI;have HV:=Zf hv;clear hI hv;cases r with
  | true =>have hg:0<=v:=HV.out.mpr (HR.out.mp rfl);go_wp2;go_ret;exact⟨rfl,k,HI.out⟩
  | false =>
    have hg:decide (0<=v)=false:=by rw[decide_eq_false_iff_not];exact fun h=>absurd (HR.out.mpr (HV.out.mp h)) (by simp)
    go_wp2;go_ret;exact⟨rfl,k,HI.out⟩
theorem Zl0(A:Option Addr)(c n:Nat)(es:List (Int×Int×Int))(g:Nat)(lb:Array Value)(eg:∀args w,(callFunc g args).run Zg w=.ok (.enter g args) w)(p:Nat->Bool)(I:Nat->World->Prop)(B:Nat)(hn:es.length=n)(hl:n<=1000)
    (hT:∀k W,I k W->Trips W B A es)
    (hp:∀k x y z W,es[k]?=some (x,y,z)->I k W->Calls Zg g (#[.agg #[.int .i64 x,.int .i64 y,.int .i64 z]]++lb) W fun e w'=>e=.returned (.bool (p k))/\I (k+1) w')
    (w:World)(h0:I 0 w):
    Calls Zg 221 #[.slice A n c,.func (.func g) #[] lb] w fun e w'=>∃r k,e=.returned (.int .i64 r)/\I k w'/\(0<=r↔ ∃j,j<n/\p j=true):=by
  have HT:=Zf hT;have HP:=Zf hp;have HN:=Zf hn;have H0:=Zf h0;clear hT hp hn h0;go_enter func221,ntmps221;go_wp2;go_loopw [8] (fun v wr=>∃k:Nat,k<=n/\v=.int .i64 k/\Hid (I k wr)/\Hid (∀j,j<k->p j=false)) (fun v _=>n - (intOf v).toNat)
  case atStart=>exact⟨0,Zu _,rfl,H0,Zf (fun j hj=>absurd hj (Yj _))⟩
  case round=>
    obtain⟨k,hk,rfl,HI,HF⟩:=hrel;clear H0;by_cases hlt:k<n
    · obtain⟨bk,off,x,y,z,rfl,hbg,hek,d1,d2,d3⟩:=(HT.out k wr HI.out).at_ (k:=k) (by rw[HN.out];exact hlt);have HEK:=Zf hek;have hcall:=HP.out k x y z wr hek HI.out;clear hek
      skip
      cases hq:p k with
      | true =>
        have HQ:=Zf hq;rw[hq]at hcall;clear hq;go_wp2_with(go_at_fn g;refine hcall.mono ?_;rintro e w' ⟨rfl,hb'⟩)
        go_ret;exact⟨_,k+1,rfl,hb',⟨fun _=>⟨k,hlt,HQ.out⟩,fun _=>by omega⟩⟩
      | false =>
        have HQ:=Zf hq;rw[hq]at hcall;clear hq;go_wp2_with(go_at_fn g;refine hcall.mono ?_;rintro e w' ⟨rfl,hb'⟩;have HB:=Zf hb';clear hb');go_roundw
        case rel=>exact⟨k+1,by omega,by go_num,HB,Zf (fun j hj=>by
          by_cases e:j=k
          · rw[e];exact HQ.out
          · exact HF.out j (by omega))⟩
        case measure=>simp[intOf];omega
    · have e:k=n:=by omega
      subst e;go_wp2;go_ret;exact⟨_,k,rfl,HI.out,⟨fun h=>Za h,fun⟨j,hj,hpj⟩=>by rw[HF.out j hj]at hpj;cases hpj⟩⟩
theorem Zl1(A:Option Addr)(c n:Nat)(es:List (Int×Int×Int))(g:Nat)(lb:Array Value)(eg:∀args w,(callFunc g args).run Zg w=.ok (.enter g args) w)(p:Nat->Bool)(I:Nat->World->Prop)(B:Nat)(hn:es.length=n)(hl:n<=1000)
    (hT:∀k W,I k W->Trips W B A es)
    (hp:∀k x y z W,es[k]?=some (x,y,z)->I k W->Calls Zg g (#[.agg #[.int .i64 x,.int .i64 y,.int .i64 z]]++lb) W fun e w'=>e=.returned (.bool (p k))/\I (k+1) w')
    (r:Bool)(hr:r=true↔ ∃j,j<n/\p j=true)(w:World)(h0:I 0 w):
    Calls Zg 190 #[.slice A n c,.func (.func g) #[] lb] w fun e w'=>e=.returned (.bool r)/\∃k,I k w':=by
  have C:=Zl0 A c n es g lb eg p I B hn hl hT hp w h0;have HR:=Zf hr;clear hT hp hn h0 hr;go_enter func190,ntmps190;go_wp2_with fail;refine C.mono ?_
  rintro e w1 ⟨v,k,rfl,hI,hv⟩;have HI:=Zf hI;have HV:=Zf hv;clear hI hv;cases r with
  | true =>have hg:0<=v:=HV.out.mpr (HR.out.mp rfl);go_wp2;go_ret;exact⟨rfl,k,HI.out⟩
  | false =>
    have hg:decide (0<=v)=false:=by rw[decide_eq_false_iff_not];exact fun h=>absurd (HR.out.mpr (HV.out.mp h)) (by simp)
    go_wp2;go_ret;exact⟨rfl,k,HI.out⟩
theorem ZpJ(A:Option Addr)(c n:Nat)(es:List (Int×Int))(g:Nat)(lb:Array Value)(eg:∀args w,(callFunc g args).run Zg w=.ok (.enter g args) w)(p:Nat->Bool)(I:Nat->World->Prop)(B:Nat)(hn:es.length=n)(hl:n<=1000)
    (hT:∀k W,I k W->Pairs W B A es)
    (hp:∀k x y W,es[k]?=some (x,y)->I k W->Calls Zg g (#[.agg #[.int .i64 x,.int .i64 y]]++lb) W fun e w'=>e=.returned (.bool (p k))/\I (k+1) w')
    (w:World)(h0:I 0 w):
    Calls Zg 220 #[.slice A n c,.func (.func g) #[] lb] w fun e w'=>∃r k,e=.returned (.int .i64 r)/\I k w'/\(0<=r↔ ∃j,j<n/\p j=true):=by
  have HT:=Zf hT;have HP:=Zf hp;have HN:=Zf hn;have H0:=Zf h0;clear hT hp hn h0;go_enter func220,ntmps220;go_wp2;go_loopw [8] (fun v wr=>∃k:Nat,k<=n/\v=.int .i64 k/\Hid (I k wr)/\Hid (∀j,j<k->p j=false)) (fun v _=>n - (intOf v).toNat)
  case atStart=>exact⟨0,Zu _,rfl,H0,Zf (fun j hj=>absurd hj (Yj _))⟩
  case round=>
    obtain⟨k,hk,rfl,HI,HF⟩:=hrel;clear H0;by_cases hlt:k<n
    · obtain⟨bk,off,⟨x,y⟩,rfl,hbg,hek,d1,d2⟩:=(HT.out k wr HI.out).at_ (k:=k) (by rw[HN.out];exact hlt)
      have HEK:=Zf hek;have hcall:=HP.out k x y wr hek HI.out;clear hek;simp only at d1 d2;cases hq:p k with
      | true =>
        have HQ:=Zf hq;rw[hq]at hcall;clear hq;go_wp2_with(go_at_fn g;refine hcall.mono ?_;rintro e w' ⟨rfl,hb'⟩)
        go_ret;exact⟨_,k+1,rfl,hb',⟨fun _=>⟨k,hlt,HQ.out⟩,fun _=>by omega⟩⟩
      | false =>
        have HQ:=Zf hq;rw[hq]at hcall;clear hq;go_wp2_with(go_at_fn g;refine hcall.mono ?_;rintro e w' ⟨rfl,hb'⟩;have HB:=Zf hb';clear hb');go_roundw
        case rel=>exact⟨k+1,by omega,by go_num,HB,Zf (fun j hj=>by
          by_cases e:j=k
          · rw[e];exact HQ.out
          · exact HF.out j (by omega))⟩
        case measure=>simp[intOf];omega
    · have e:k=n:=by omega
      subst e;go_wp2;go_ret;exact⟨_,k,rfl,HI.out,⟨fun h=>Za h,fun⟨j,hj,hpj⟩=>by rw[HF.out j hj]at hpj;cases hpj⟩⟩
theorem ZpK(A:Option Addr)(c n:Nat)(es:List (Int×Int))(g:Nat)(lb:Array Value)(eg:∀args w,(callFunc g args).run Zg w=.ok (.enter g args) w)(p:Nat->Bool)(I:Nat->World->Prop)(B:Nat)(hn:es.length=n)(hl:n<=1000)
    (hT:∀k W,I k W->Pairs W B A es)
    (hp:∀k x y W,es[k]?=some (x,y)->I k W->Calls Zg g (#[.agg #[.int .i64 x,.int .i64 y]]++lb) W fun e w'=>e=.returned (.bool (p k))/\I (k+1) w')
    (r:Bool)(hr:r=true↔ ∃j,j<n/\p j=true)(w:World)(h0:I 0 w):
    Calls Zg 188 #[.slice A n c,.func (.func g) #[] lb] w fun e w'=>e=.returned (.bool r)/\∃k,I k w':=by
  have C:=ZpJ A c n es g lb eg p I B hn hl hT hp w h0;have HR:=Zf hr;clear hT hp hn h0 hr;go_enter func188,ntmps188;go_wp2_with fail;refine C.mono ?_
  rintro e w1 ⟨v,k,rfl,hI,hv⟩;have HI:=Zf hI;have HV:=Zf hv;clear hI hv;cases r with
  | true =>have hg:0<=v:=HV.out.mpr (HR.out.mp rfl);go_wp2;go_ret;exact⟨rfl,k,HI.out⟩
  | false =>
    have hg:decide (0<=v)=false:=by rw[decide_eq_false_iff_not];exact fun h=>absurd (HR.out.mpr (HV.out.mp h)) (by simp)
    go_wp2;go_ret;exact⟨rfl,k,HI.out⟩
theorem ZpL(A:Option Addr)(c n:Nat)(es:List Int)(g:Nat)(lb:Array Value)(eg:∀args w,(callFunc g args).run Zg w=.ok (.enter g args) w)(p:Nat->Bool)(I:Nat->World->Prop)(B:Nat)(hn:es.length=n)(hl:n<=1000)
    (hT:∀k W,I k W->Ints W B A es)
    (hp:∀k x W,es[k]?=some x->I k W->Calls Zg g (#[.int .i64 x]++lb) W fun e w'=>e=.returned (.bool (p k))/\I (k+1) w')
    (w:World)(h0:I 0 w):
    Calls Zg 89 #[.slice A n c,.func (.func g) #[] lb] w fun e w'=>∃r k,e=.returned (.int .i64 r)/\I k w'/\(0<=r↔ ∃j,j<n/\p j=true):=by
  have HT:=Zf hT;have HP:=Zf hp;have HN:=Zf hn;have H0:=Zf h0;clear hT hp hn h0;go_enter func89,ntmps89;go_wp2;go_loopw [8] (fun v wr=>∃k:Nat,k<=n/\v=.int .i64 k/\Hid (I k wr)/\Hid (∀j,j<k->p j=false)) (fun v _=>n - (intOf v).toNat)
  case atStart=>exact⟨0,Zu _,rfl,H0,Zf (fun j hj=>absurd hj (Yj _))⟩
  case round=>
    obtain⟨k,hk,rfl,HI,HF⟩:=hrel;clear H0;by_cases hlt:k<n
    · obtain⟨bk,off,x,rfl,hbg,hek,d1⟩:=(HT.out k wr HI.out).at_ (k:=k) (by rw[HN.out];exact hlt);have HEK:=Zf hek;have hcall:=HP.out k x wr hek HI.out;clear hek
      skip
      cases hq:p k with
      | true =>
        have HQ:=Zf hq;rw[hq]at hcall;clear hq;go_wp2_with(go_at_fn g;refine hcall.mono ?_;rintro e w' ⟨rfl,hb'⟩)
        go_ret;exact⟨_,k+1,rfl,hb',⟨fun _=>⟨k,hlt,HQ.out⟩,fun _=>by omega⟩⟩
      | false =>
        have HQ:=Zf hq;rw[hq]at hcall;clear hq;go_wp2_with(go_at_fn g;refine hcall.mono ?_;rintro e w' ⟨rfl,hb'⟩;have HB:=Zf hb';clear hb');go_roundw
        case rel=>exact⟨k+1,by omega,by go_num,HB,Zf (fun j hj=>by
          by_cases e:j=k
          · rw[e];exact HQ.out
          · exact HF.out j (by omega))⟩
        case measure=>simp[intOf];omega
    · have e:k=n:=by omega
      subst e;go_wp2;go_ret;exact⟨_,k,rfl,HI.out,⟨fun h=>Za h,fun⟨j,hj,hpj⟩=>by rw[HF.out j hj]at hpj;cases hpj⟩⟩
theorem Zk9(A:Option Addr)(c n:Nat)(es:List Int)(g:Nat)(lb:Array Value)(eg:∀args w,(callFunc g args).run Zg w=.ok (.enter g args) w)(p:Nat->Bool)(I:Nat->World->Prop)(B:Nat)(hn:es.length=n)(hl:n<=1000)
    (hT:∀k W,I k W->Ints W B A es)
    (hp:∀k x W,es[k]?=some x->I k W->Calls Zg g (#[.int .i64 x]++lb) W fun e w'=>e=.returned (.bool (p k))/\I (k+1) w')
    (r:Bool)(hr:r=true↔ ∃j,j<n/\p j=true)(w:World)(h0:I 0 w):
    Calls Zg 43 #[.slice A n c,.func (.func g) #[] lb] w fun e w'=>e=.returned (.bool r)/\∃k,I k w':=by
  have C:=ZpL A c n es g lb eg p I B hn hl hT hp w h0;have HR:=Zf hr;clear hT hp hn h0 hr;go_enter func43,ntmps43;go_wp2_with fail;refine C.mono ?_
  rintro e w1 ⟨v,k,rfl,hI,hv⟩;have HI:=Zf hI;have HV:=Zf hv;clear hI hv;cases r with
  | true =>have hg:0<=v:=HV.out.mpr (HR.out.mp rfl);go_wp2;go_ret;exact⟨rfl,k,HI.out⟩
  | false =>
    have hg:decide (0<=v)=false:=by rw[decide_eq_false_iff_not];exact fun h=>absurd (HR.out.mpr (HV.out.mp h)) (by simp)
    go_wp2;go_ret;exact⟨rfl,k,HI.out⟩
theorem Zri(A:Option Addr)(c n:Nat)(es:List (List Int×List Int))(g:Nat)(lb:Array Value)(eg:∀args w,(callFunc g args).run Zg w=.ok (.enter g args) w)(p:Nat->Bool)(I:Nat->World->Prop)(B:Nat)(hn:es.length=n)(hl:n<=1000)
    (hT:∀k W,I k W->Bars W B A es)
    (hp:∀k xs ys A1 n1 c1 A2 n2 c2 W,es[k]?=some (xs,ys)->xs.length=n1->ys.length=n2->Ints W B A1 xs->Ints W B A2 ys->(A1=none->n1=0/\c1=0)->(A2=none->n2=0/\c2=0)->I k W->Calls Zg g (#[.agg #[.slice A1 n1 c1,.slice A2 n2 c2]]++lb) W fun e w'=>e=.returned (.bool (p k))/\I (k+1) w')
    (w:World)(h0:I 0 w):
    Calls Zg 222 #[.slice A n c,.func (.func g) #[] lb] w fun e w'=>∃r k,e=.returned (.int .i64 r)/\I k w'/\(0<=r↔ ∃j,j<n/\p j=true):=by
  have HT:=Zf hT;have HP:=Zf hp;have HN:=Zf hn;have H0:=Zf h0;clear hT hp hn h0;go_enter func222,ntmps222;go_wp2;go_loopw [8] (fun v wr=>∃k:Nat,k<=n/\v=.int .i64 k/\Hid (I k wr)/\Hid (∀j,j<k->p j=false)) (fun v _=>n - (intOf v).toNat)
  case atStart=>exact⟨0,Zu _,rfl,H0,Zf (fun j hj=>absurd hj (Yj _))⟩
  case round=>
    obtain⟨k,hk,rfl,HI,HF⟩:=hrel;clear H0;by_cases hlt:k<n
    · obtain⟨bk,off,xs,ys,A1,n1,c1,A2,n2,c2,rfl,hbg,hek,hn1,hn2,d1,d2,hxs,hys,hz1,hz2⟩:=(HT.out k wr HI.out).at_ (k:=k) (by rw[HN.out];exact hlt);have HEK:=Zf hek;have hcall:=HP.out k xs ys A1 n1 c1 A2 n2 c2 wr hek hn1 hn2 hxs hys hz1 hz2 HI.out;clear hek hn1 hn2 hxs hys hz1 hz2
      skip
      cases hq:p k with
      | true =>
        have HQ:=Zf hq;rw[hq]at hcall;clear hq;go_wp2_with(go_at_fn g;refine hcall.mono ?_;rintro e w' ⟨rfl,hb'⟩)
        go_ret;exact⟨_,k+1,rfl,hb',⟨fun _=>⟨k,hlt,HQ.out⟩,fun _=>by omega⟩⟩
      | false =>
        have HQ:=Zf hq;rw[hq]at hcall;clear hq;go_wp2_with(go_at_fn g;refine hcall.mono ?_;rintro e w' ⟨rfl,hb'⟩;have HB:=Zf hb';clear hb');go_roundw
        case rel=>exact⟨k+1,by omega,by go_num,HB,Zf (fun j hj=>by
          by_cases e:j=k
          · rw[e];exact HQ.out
          · exact HF.out j (by omega))⟩
        case measure=>simp[intOf];omega
    · have e:k=n:=by omega
      subst e;go_wp2;go_ret;exact⟨_,k,rfl,HI.out,⟨fun h=>Za h,fun⟨j,hj,hpj⟩=>by rw[HF.out j hj]at hpj;cases hpj⟩⟩
theorem Zrj(A:Option Addr)(c n:Nat)(es:List (List Int×List Int))(g:Nat)(lb:Array Value)(eg:∀args w,(callFunc g args).run Zg w=.ok (.enter g args) w)(p:Nat->Bool)(I:Nat->World->Prop)(B:Nat)(hn:es.length=n)(hl:n<=1000)
    (hT:∀k W,I k W->Bars W B A es)
    (hp:∀k xs ys A1 n1 c1 A2 n2 c2 W,es[k]?=some (xs,ys)->xs.length=n1->ys.length=n2->Ints W B A1 xs->Ints W B A2 ys->(A1=none->n1=0/\c1=0)->(A2=none->n2=0/\c2=0)->I k W->Calls Zg g (#[.agg #[.slice A1 n1 c1,.slice A2 n2 c2]]++lb) W fun e w'=>e=.returned (.bool (p k))/\I (k+1) w')
    (r:Bool)(hr:r=true↔ ∃j,j<n/\p j=true)(w:World)(h0:I 0 w):
    Calls Zg 191 #[.slice A n c,.func (.func g) #[] lb] w fun e w'=>e=.returned (.bool r)/\∃k,I k w':=by
  have C:=Zri A c n es g lb eg p I B hn hl hT hp w h0;have HR:=Zf hr;clear hT hp hn h0 hr;go_enter func191,ntmps191;go_wp2_with fail;refine C.mono ?_
  rintro e w1 ⟨v,k,rfl,hI,hv⟩;have HI:=Zf hI;have HV:=Zf hv;clear hI hv;cases r with
  | true =>have hg:0<=v:=HV.out.mpr (HR.out.mp rfl);go_wp2;go_ret;exact⟨rfl,k,HI.out⟩
  | false =>
    have hg:decide (0<=v)=false:=by rw[decide_eq_false_iff_not];exact fun h=>absurd (HR.out.mpr (HV.out.mp h)) (by simp)
    go_wp2;go_ret;exact⟨rfl,k,HI.out⟩
theorem ZjT(x y z:Int)(r:Bool)(hr:r=true↔ ¬ZcG (x,y,z))(w:World):
  Calls Zg 185 #[.agg #[.int .i64 x,.int .i64 y,.int .i64 z]] w fun e w'=>e=.returned (.bool r)/\Below w.heap.size w w':=by
 unfold ZcG at hr;simp only at hr;by_cases h1:x<0
 ·obtain rfl: r = true:=hr.mpr (by omega)
  clear hr;go_enter func185,ntmps185;go_wp2;go_ret;exact⟨rfl,Zaa _⟩
 ·by_cases h2: 5 < x
  ·obtain rfl: r = true:=hr.mpr (by omega)
   clear hr;go_enter func185,ntmps185;go_wp2;go_ret;exact⟨rfl,Zaa _⟩
  ·by_cases h3: 0 <= y /\ y <= 2147483647
   ·have C:=Zf (ZaY y 0 2147483647 true ⟨fun _ => h3,fun _ => rfl⟩)
    by_cases h4:1<=z/\z<=100
    ·have D:=Zf (ZaY z 1 100 true ⟨fun _ => h4,fun _ => rfl⟩)
     obtain rfl:r=false:=by rw[<-ZF];exact fun h=>hr.mp h ⟨by omega,by omega,h3.1,h3.2,h4.1,h4.2⟩
     clear hr h3 h4;go_enter func185,ntmps185;go_wp2_with fail;refine(C.out _).mono ?_;rintro e w' ⟨rfl,rfl⟩;go_wp2_with fail;refine(D.out _).mono ?_;rintro e w' ⟨rfl,rfl⟩;go_wp2;go_ret;exact⟨rfl,Zaa _⟩
    ·have D:=Zf (ZaY z 1 100 false ⟨fun q => Zx q,fun q => absurd q h4⟩)
     obtain rfl:r=true:=hr.mpr (fun q=>h4 ⟨q.2.2.2.2.1,q.2.2.2.2.2⟩);clear hr h3 h4;go_enter func185,ntmps185;go_wp2_with fail;refine(C.out _).mono ?_;rintro e w' ⟨rfl,rfl⟩;go_wp2_with fail;refine(D.out _).mono ?_;rintro e w' ⟨rfl,rfl⟩;go_wp2;go_ret;exact⟨rfl,Zaa _⟩
   ·have C:=Zf (ZaY y 0 2147483647 false ⟨fun q => Zx q,fun q => absurd q h3⟩)
    obtain rfl:r=true:=hr.mpr (fun q=>h3 ⟨q.2.2.1,q.2.2.2.1⟩);clear hr h3;go_enter func185,ntmps185;go_wp2_with fail;refine(C.out _).mono ?_;rintro e w' ⟨rfl,rfl⟩;go_wp2;go_ret;exact⟨rfl,Zaa _⟩
theorem Zl2(A:Option Addr)(c n:Nat)(es:List (Int×Int×Int))(r:Bool)(hr:r=true↔ZaM es)(w:World)(hn:es.length=n)(hl:n<=1000)(hT:Trips w w.heap.size A es):
    Calls Zg 132 #[.slice A n c] w fun e w'=>e=.returned (.bool r)/\Below w.heap.size w w':=by
  have C:=Zf (ZpI A c n es 185 #[] (Za1 func185 (by kernel_rfl) rfl) (fun k=>match es[k]? with|some e=> !decide (ZcG e)|none=>false) (fun _ W=>Below w.heap.size w W) w.heap.size hn hl
    (fun k W h=>hT.below h)
    (fun k x y z W hk h=>(ZjT x y z (!decide (ZcG (x,y,z))) (by simp) W).mono fun e w' ⟨he,hb⟩=>⟨by rw[he];simp only[hk],h.trans (hb.mono h.size)⟩)
    (!r) (by
      rw[Bool.not_eq_true',<-ZF,hr];unfold ZaM;constructor
      · intro h;rw[Classical.not_forall]at h;obtain⟨e,h⟩:=h;rw[Classical.not_imp]at h;obtain⟨j,hj,he⟩:=List.getElem_of_mem h.1;refine⟨j,by omega,?_⟩;rw[Zh hj,he];simp[h.2]
      · rintro⟨j,hj,h⟩ hall;rw[Zh (by omega)]at h;simp only[Bool.not_eq_true',decide_eq_false_iff_not]at h;exact h (hall _ (List.getElem_mem _)))
    w (Zl _ _))
  clear hT hr;go_enter func132,ntmps132;go_wp2_with fail;refine C.out.mono ?_
  rintro e w1 ⟨rfl,k,hb⟩;cases r with
  | true =>
    go_wp2;go_ret
    exact⟨rfl,hb⟩
  | false =>go_wp2;go_ret;exact⟨rfl,hb⟩
end Go.Proofs.YtfahabphncmbfaaGreatDoor
