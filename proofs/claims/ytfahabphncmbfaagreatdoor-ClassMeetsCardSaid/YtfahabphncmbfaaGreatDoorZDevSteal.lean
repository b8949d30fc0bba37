import Derived.Test.YtfahabphncmbfaaGreatDoorZQ31
set_option linter.all false
set_option maxRecDepth 100000
set_option maxHeartbeats 16000000
namespace Go.Proofs.YtfahabphncmbfaaGreatDoor
open Go Go.RowKit
open Classical renaming byContradiction→Zn
open Go.Lib renaming hid→Zf
open Nat renaming add_zero→Zy,lt_succ_self→ZZ,reduceEqDiff→ZR
open Go.Oper renaming upon_skip→YH,upon_value→ZN,wp→Z0
open Option.some renaming injEq→ZB
open Go.Proofs.Tryz renaming prog→Zg
open Go renaming execOp→Yae,undef→Yag
open Go.Proofs.Tryz
def ZrJ(wf:World)(A:Option Addr)(n c:Nat)(T B:Int)(k0:Int)(p off bb:Nat)(x:Int):Nat->Value->World->Prop
 |0,v,w=>v=.pointer (some ⟨wf.heap.size+1,0,none⟩)
 |1,v,w=>v=.pointer (some ⟨wf.heap.size+1,0,none⟩)
 |2,v,w=>v=.pointer (some ⟨wf.heap.size,0,none⟩)
 |3,v,w=>v=.pointer (some ⟨wf.heap.size,0,none⟩)
 |4,v,w=>v=.pointer (some ⟨wf.heap.size,0,none⟩)
 |5,v,w=>v=.slice (some ⟨bb,off,none⟩) n c
 |6,v,w=>v=.pointer (some ⟨wf.heap.size,0,none⟩)
 |7,v,w=>v=.pointer (some ⟨wf.heap.size,0,none⟩)
 |8,v,w=>v=.agg #[.slice (some ⟨bb,off,none⟩) n c,.int .i64 T,.int .i64 B]
 |9,v,w=>v=.pointer (some ⟨wf.heap.size+1,0,none⟩)
 |10,v,w=>v=.pointer (some ⟨wf.heap.size+1,0,none⟩)
 |11,v,w=>v=.pointer (some ⟨wf.heap.size+1,2,none⟩)
 |12,v,w=>v=.int .i64 k0
 |13,v,w=>v=.int .i64 p
 |14,v,w=>v=.pointer (some ⟨bb,off+p,none⟩)
 |15,v,w=>v=.int .i64 x
 |_,_,_=>True
theorem Zkq{wf:World}{A:Option Addr}{n c:Nat}{T B:Int}{k0:Int}{p off bb:Nat}{x:Int}:∀k v w w',ZrJ wf A n c T B k0 p off bb x k v w->ZrJ wf A n c T B k0 p off bb x k v w':=by
 intro k v w w' h
 match k,h with
 |0,h=>exact h
 |1,h=>exact h
 |2,h=>exact h
 |3,h=>exact h
 |4,h=>exact h
 |5,h=>exact h
 |6,h=>exact h
 |7,h=>exact h
 |8,h=>exact h
 |9,h=>exact h
 |10,h=>exact h
 |11,h=>exact h
 |12,h=>exact h
 |13,h=>exact h
 |14,h=>exact h
 |15,h=>exact h
 |k+16,h=>exact trivial
def ZsR(wf:World)(A:Option Addr)(n c:Nat)(T B:Int)(st:Bool)(a tp bt gt en:Int)(one:Bool)(x:Int)(t:Nat)(f:Nat->Value)(w:World):Prop:=
 16<=t/\t<=22/\f 54=.pointer (some ⟨wf.heap.size+1,0,none⟩)/\f 69=.int .i64 x/\(17<=t->f 70=.pointer (some ⟨wf.heap.size+1,0,none⟩))/\(18<=t->f 71=.pointer (some ⟨wf.heap.size+1,4,none⟩))/\(20<=t->f 72=.pointer (some ⟨wf.heap.size+1,0,none⟩))/\(21<=t->f 73=.pointer (some ⟨wf.heap.size+1,1,none⟩))/\
  (t<=18->Rws wf (ZbL A n c T B ⟨st,a,tp,bt,gt,en⟩ one 0 true) w)/\(19<=t->t<=21->Rws wf (ZbL A n c T B ⟨st,a,tp,bt,x,en⟩ one 0 true) w)/\(t=22->Rws wf (ZbL A n c T B ⟨st,3,tp,bt,x,en⟩ one 0 true) w)
def FrSteal(wf:World)(a:Act):Prop:=a.defers= []/\a.tmps.size=99/\a.tmps.getD 0 Yag=.pointer (some ⟨wf.heap.size,0,none⟩)/\a.tmps.getD 1 Yag=.pointer (some ⟨wf.heap.size+1,0,none⟩)/\a.tmps.getD 2 Yag=.func (.func 245) #[] #[.pointer (some ⟨wf.heap.size,0,none⟩),.pointer (some ⟨wf.heap.size+1+1+1+1+1,0,none⟩),.pointer (some ⟨wf.heap.size+1+1+1+1+1+1,0,none⟩),.pointer (some ⟨wf.heap.size+1+1,0,none⟩),.pointer (some ⟨wf.heap.size+1,0,none⟩)]
theorem FrSteal.lit{wf:World}{a:Act}(h:FrSteal wf a):∃u:Nat->Value,a={tmps:=#[.pointer (some ⟨wf.heap.size,0,none⟩),.pointer (some ⟨wf.heap.size+1,0,none⟩),.func (.func 245) #[] #[.pointer (some ⟨wf.heap.size,0,none⟩),.pointer (some ⟨wf.heap.size+1+1+1+1+1,0,none⟩),.pointer (some ⟨wf.heap.size+1+1+1+1+1+1,0,none⟩),.pointer (some ⟨wf.heap.size+1+1,0,none⟩),.pointer (some ⟨wf.heap.size+1,0,none⟩)],u 3,u 4,u 5,u 6,u 7,u 8,u 9,u 10,u 11,u 12,u 13,u 14,u 15,u 16,u 17,u 18,u 19,u 20,u 21,u 22,u 23,u 24,u 25,u 26,u 27,u 28,u 29,u 30,u 31,u 32,u 33,u 34,u 35,u 36,u 37,u 38,u 39,u 40,u 41,u 42,u 43,u 44,u 45,u 46,u 47,u 48,u 49,u 50,u 51,u 52,u 53,u 54,u 55,u 56,u 57,u 58,u 59,u 60,u 61,u 62,u 63,u 64,u 65,u 66,u 67,u 68,u 69,u 70,u 71,u 72,u 73,u 74,u 75,u 76,u 77,u 78,u 79,u 80,u 81,u 82,u 83,u 84,u 85,u 86,u 87,u 88,u 89,u 90,u 91,u 92,u 93,u 94,u 95,u 96,u 97,u 98],defers:=[]}:=by obtain⟨xs,ds⟩:=a;obtain⟨h1,h2,h3,h4,h5⟩:=h;simp only at h1 h2 h3 h4 h5;refine⟨fun k=>xs.getD k Yag,?_⟩;have e:=Zi4 h2;have e2:(List.range 99).map (fun k=>xs.getD k Yag)= [xs.getD 0 Yag,xs.getD 1 Yag,xs.getD 2 Yag,xs.getD 3 Yag,xs.getD 4 Yag,xs.getD 5 Yag,xs.getD 6 Yag,xs.getD 7 Yag,xs.getD 8 Yag,xs.getD 9 Yag,xs.getD 10 Yag,xs.getD 11 Yag,xs.getD 12 Yag,xs.getD 13 Yag,xs.getD 14 Yag,xs.getD 15 Yag,xs.getD 16 Yag,xs.getD 17 Yag,xs.getD 18 Yag,xs.getD 19 Yag,xs.getD 20 Yag,xs.getD 21 Yag,xs.getD 22 Yag,xs.getD 23 Yag,xs.getD 24 Yag,xs.getD 25 Yag,xs.getD 26 Yag,xs.getD 27 Yag,xs.getD 28 Yag,xs.getD 29 Yag,xs.getD 30 Yag,xs.getD 31 Yag,xs.getD 32 Yag,xs.getD 33 Yag,xs.getD 34 Yag,xs.getD 35 Yag,xs.getD 36 Yag,xs.getD 37 Yag,xs.getD 38 Yag,xs.getD 39 Yag,xs.getD 40 Yag,xs.getD 41 Yag,xs.getD 42 Yag,xs.getD 43 Yag,xs.getD 44 Yag,xs.getD 45 Yag,xs.getD 46 Yag,xs.getD 47 Yag,xs.getD 48 Yag,xs.getD 49 Yag,xs.getD 50 Yag,xs.getD 51 Yag,xs.getD 52 Yag,xs.getD 53 Yag,xs.getD 54 Yag,xs.getD 55 Yag,xs.getD 56 Yag,xs.getD 57 Yag,xs.getD 58 Yag,xs.getD 59 Yag,xs.getD 60 Yag,xs.getD 61 Yag,xs.getD 62 Yag,xs.getD 63 Yag,xs.getD 64 Yag,xs.getD 65 Yag,xs.getD 66 Yag,xs.getD 67 Yag,xs.getD 68 Yag,xs.getD 69 Yag,xs.getD 70 Yag,xs.getD 71 Yag,xs.getD 72 Yag,xs.getD 73 Yag,xs.getD 74 Yag,xs.getD 75 Yag,xs.getD 76 Yag,xs.getD 77 Yag,xs.getD 78 Yag,xs.getD 79 Yag,xs.getD 80 Yag,xs.getD 81 Yag,xs.getD 82 Yag,xs.getD 83 Yag,xs.getD 84 Yag,xs.getD 85 Yag,xs.getD 86 Yag,xs.getD 87 Yag,xs.getD 88 Yag,xs.getD 89 Yag,xs.getD 90 Yag,xs.getD 91 Yag,xs.getD 92 Yag,xs.getD 93 Yag,xs.getD 94 Yag,xs.getD 95 Yag,xs.getD 96 Yag,xs.getD 97 Yag,xs.getD 98 Yag]:=rfl;rw[e2,h3,h4,h5]at e;subst h1;rw[Act.mk.injEq];exact⟨e,rfl⟩
section
variable {A: Option Addr}{n c: Nat}{R: List Int}
theorem Zmn(T B:Int)(t:Tkr)(one b:Bool)(z:Int)(f:Nat)(wf wr:World)(hq:IsQ wf A n c R)(hT:DTab wf)(hs:t.steal=true)(hf:Enough one b t f)(B0:Rws wf (ZbL A n c T B t one z b) wr):
    Calls Zg 247 #[.pointer (some ⟨wf.heap.size,0,none⟩),.pointer (some ⟨wf.heap.size+1,0,none⟩),.func (.func 245) #[] #[.pointer (some ⟨wf.heap.size,0,none⟩),.pointer (some ⟨wf.heap.size+1+1+1+1+1,0,none⟩),.pointer (some ⟨wf.heap.size+1+1+1+1+1+1,0,none⟩),.pointer (some ⟨wf.heap.size+1+1,0,none⟩),.pointer (some ⟨wf.heap.size+1,0,none⟩)]] wr (Zon wf A n c one (goD R one f b T B t)):=by
  obtain⟨S,hS⟩:∃S,S=goD R one f b T B t:=⟨_,rfl⟩;rw[<-hS];have HN:=Zf hq.hn;have HQ:=Zf hq;have hln:=hq.ln;have CM:=Zf (fun(T B:Int) (t:Tkr) (b:Bool) (z:Int) (wr:World) h=>Zln (A:=A) (n:=n) (c:=c) T B t one b z wf wr hln hT h);have ST:Hid (Zol wf A n c R one true S (2 * f) wr):=Zf ⟨T,B,t,b,z,f,rfl,Zf B0,hs,Zf hS.symm,hf⟩;clear hS hq hT B0 hf;go_enter func247,ntmps247;refine Zex (Zom wf A n c R one true S (FrSteal wf)) rfl rfl rfl rfl ⟨_,⟨rfl,rfl,rfl,rfl,rfl⟩,fun _=>ST.out,fun h=>absurd rfl h⟩ ?p0 ?p1 ?p2 ?p3 ?p4
  case p0=>
    clear ST hs;rintro m a0 w0 ⟨hfr,h, -⟩;obtain⟨u,rfl⟩:=hfr.lit;clear hfr;obtain⟨T,B,t,b,z,f,rfl,B0,hs,HG,he⟩:=h rfl;have CC:=Zf (CM.out T B t b z w0 B0.out);clear h CM;go_wp2_with fail;refine CC.out.mono ?_;rintro e w1 ⟨rfl,b1⟩;have B1:=Zf b1;clear b1 B0 CC;obtain⟨g,hg⟩:∃g,mayG n T B t one b=g:=⟨_,rfl⟩;rw[hg]at B1⊢;cases g
    · have HF:=Zf (FinGo.of HN.out HG.out he hg B1.out);clear HG he hg B1;go_wp2;simp only[ZbT];refine bodyPost_ret (v:=.tuple #[]) (results_none rfl _ _ _) rfl ⟨rfl,HF.out⟩
    · obtain⟨m',hm,hst⟩:=AtStep.of HN.out HG.out he hg hs B1.out;have HST:=Zf hst;clear HG he hg hs hst;obtain⟨st,a,tp,bt,gt,en⟩:=t;have c11:=B1.out.cell 1 1 rfl rfl;simp only at HST;clear B1;by_cases a0:a=0
      · have e0:(a==0)=true:=by rw[beq_iff_eq];exact a0
        have HL:Hid (lblD a=1):=Zf (by unfold lblD;rw[Zc a0]);clear a0;go_wp2
        go_step3
        simp only[Exit.inBlock,Exit.then];exact⟨by decide,_,hm,⟨rfl,rfl,rfl,rfl,rfl⟩,fun h=>Za h,fun _=>HL.out▸HST.out⟩
      have e0:(a==0)=false:=beq_eq_false_iff_ne.mpr a0;by_cases a1:a=1
      · have e1:(a==1)=true:=by rw[beq_iff_eq];exact a1
        have HL:Hid (lblD a=2):=Zf (by unfold lblD;rw[Zb a0,Zc a1]);clear a0 a1;go_wp2
        go_step3
        simp only[Exit.inBlock,Exit.then];exact⟨by decide,_,hm,⟨rfl,rfl,rfl,rfl,rfl⟩,fun h=>Za h,fun _=>HL.out▸HST.out⟩
      have e1:(a==1)=false:=beq_eq_false_iff_ne.mpr a1;by_cases a2:a=2
      · have e2:(a==2)=true:=by rw[beq_iff_eq];exact a2
        have HL:Hid (lblD a=3):=Zf (by unfold lblD;rw[Zb a0,Zb a1,Zc a2]);clear a0 a1 a2;go_wp2
        go_step3
        simp only[Exit.inBlock,Exit.then];exact⟨by decide,_,hm,⟨rfl,rfl,rfl,rfl,rfl⟩,fun h=>Za h,fun _=>HL.out▸HST.out⟩
      · have e2:(a==2)=false:=beq_eq_false_iff_ne.mpr a2;have HL:Hid (lblD a=4):=Zf (by unfold lblD;rw[Zb a0,Zb a1,Zb a2]);clear a0 a1 a2;go_wp2
        go_step3
        simp only[Exit.inBlock,Exit.then];exact⟨by decide,_,hm,⟨rfl,rfl,rfl,rfl,rfl⟩,fun h=>Za h,fun _=>HL.out▸HST.out⟩
  case p1=>
    clear ST CM hs;rintro m a0 w0 ⟨hfr, -,h⟩;obtain⟨u,rfl⟩:=hfr.lit;clear hfr;obtain⟨T,B,t,f,rfl,B1,hs,hc,ho,hl,HG,he⟩:=h (by decide);obtain⟨st,a,tp,bt,gt,en⟩:=t;obtain rfl:st=true:=hs;obtain⟨c1,c2,c3,c4,c5⟩:=hc;have hn0:0<n:=by have:=c1.bounds;omega
    have hn64:n<=64:=by have:=c1.bounds;omega
    have hab:=ZbD ho;have hen:en=0:=Zn fun q=>ho (.inl q);have hrng:0<=a/\a<=3:=by unfold Zbp at ho;simp only[not_or]at ho;have h1:=ho.2.1;have h2:=ho.2.2.1;simp at h1 h2;omega
    simp only at hab hl;clear h ho c1;obtain rfl:a=0:=by
      unfold lblD at hl;by_cases h0:a=0
      · rw[Zc h0]at hl;omega
      rw[Zb h0]at hl;by_cases h1:a=1
      · rw[Zc h1]at hl;omega
      rw[Zb h1]at hl;by_cases h2:a=2
      · rw[Zc h2]at hl;omega
      · rw[Zb h2]at hl;omega
    clear hl hrng;have hr:Zav R T B ⟨true,0,tp,bt,gt,en⟩=(T,B,⟨true,1,T,bt,gt,en⟩):=by rfl
    rw[hr]at HG he;clear hr;have c00:=B1.out.cell 0 0 rfl rfl;have zc00:=B1.out.frozen 0 0 rfl;have c01:=B1.out.cell 0 1 rfl rfl;have zc01:=B1.out.frozen 0 1 rfl;have c02:=B1.out.cell 0 2 rfl rfl;have zc02:=B1.out.frozen 0 2 rfl;have c10:=B1.out.cell 1 0 rfl rfl;have zc10:=B1.out.frozen 1 0 rfl;have c11:=B1.out.cell 1 1 rfl rfl;have zc11:=B1.out.frozen 1 1 rfl;have c12:=B1.out.cell 1 2 rfl rfl;have zc12:=B1.out.frozen 1 2 rfl;have c13:=B1.out.cell 1 3 rfl rfl;have zc13:=B1.out.frozen 1 3 rfl;have c14:=B1.out.cell 1 4 rfl rfl;have zc14:=B1.out.frozen 1 4 rfl;have c15:=B1.out.cell 1 5 rfl rfl;have zc15:=B1.out.frozen 1 5 rfl;simp only[Zy]at c00 c01 c02 zc00 zc01 zc02;have B2:=Zf ((B1.out.set 1 2 rfl (.int .i64 T)).set 1 1 rfl (.int .i64 1));go_wp2
    go_step3
    try simp only[Exit.inBlock,Exit.then]
    exact⟨by decide,_,ZZ _,⟨rfl,rfl,rfl,rfl,rfl⟩,fun _=>⟨T,B,⟨true,1,T,bt,gt,en⟩,true,0,f,rfl,Zf B2.out,rfl,HG,he⟩,fun h=>absurd rfl h⟩
  case p2=>
    clear ST CM hs;rintro m a0 w0 ⟨hfr, -,h⟩;obtain⟨u,rfl⟩:=hfr.lit;clear hfr;obtain⟨T,B,t,f,rfl,B1,hs,hc,ho,hl,HG,he⟩:=h (by decide);obtain⟨st,a,tp,bt,gt,en⟩:=t;obtain rfl:st=true:=hs;obtain⟨c1,c2,c3,c4,c5⟩:=hc;have hn0:0<n:=by have:=c1.bounds;omega
    have hn64:n<=64:=by have:=c1.bounds;omega
    have hab:=ZbD ho;have hen:en=0:=Zn fun q=>ho (.inl q);have hrng:0<=a/\a<=3:=by unfold Zbp at ho;simp only[not_or]at ho;have h1:=ho.2.1;have h2:=ho.2.2.1;simp at h1 h2;omega
    simp only at hab hl;clear h ho c1;obtain rfl:a=1:=by
      unfold lblD at hl;by_cases h0:a=0
      · rw[Zc h0]at hl;omega
      rw[Zb h0]at hl;by_cases h1:a=1
      · rw[Zc h1]at hl;omega
      rw[Zb h1]at hl;by_cases h2:a=2
      · rw[Zc h2]at hl;omega
      · rw[Zb h2]at hl;omega
    clear hl hrng;have c00:=B1.out.cell 0 0 rfl rfl;have zc00:=B1.out.frozen 0 0 rfl;have c01:=B1.out.cell 0 1 rfl rfl;have zc01:=B1.out.frozen 0 1 rfl;have c02:=B1.out.cell 0 2 rfl rfl;have zc02:=B1.out.frozen 0 2 rfl;have c10:=B1.out.cell 1 0 rfl rfl;have zc10:=B1.out.frozen 1 0 rfl;have c11:=B1.out.cell 1 1 rfl rfl;have zc11:=B1.out.frozen 1 1 rfl;have c12:=B1.out.cell 1 2 rfl rfl;have zc12:=B1.out.frozen 1 2 rfl;have c13:=B1.out.cell 1 3 rfl rfl;have zc13:=B1.out.frozen 1 3 rfl;have c14:=B1.out.cell 1 4 rfl rfl;have zc14:=B1.out.frozen 1 4 rfl;have c15:=B1.out.cell 1 5 rfl rfl;have zc15:=B1.out.frozen 1 5 rfl;simp only[Zy]at c00 c01 c02 zc00 zc01 zc02;obtain⟨w2,hw2,B2⟩:∃w2,w2=(w0.setCell ⟨wf.heap.size+1,3,none⟩ (.int .i64 B)).setCell ⟨wf.heap.size+1,1,none⟩ (.int .i64 2)/\Hid (Rws wf (ZbL A n c T B ⟨true,2,tp,B,gt,en⟩ one 0 true) w2):=⟨_,rfl,Zf ((B1.out.set 1 3 rfl (.int .i64 B)).set 1 1 rfl (.int .i64 2))⟩;have HW2:=Zf hw2;clear hw2;go_upto_region 7 with fail;rw[<-HW2.out];clear HW2 B1 c00 zc00 c01 zc01 c02 zc02 c10 zc10 c11 zc11 c12 zc12 c13 zc13 c14 zc14 c15 zc15;have c00:=B2.out.cell 0 0 rfl rfl;have zc00:=B2.out.frozen 0 0 rfl;have c01:=B2.out.cell 0 1 rfl rfl;have zc01:=B2.out.frozen 0 1 rfl;have c02:=B2.out.cell 0 2 rfl rfl;have zc02:=B2.out.frozen 0 2 rfl;have c10:=B2.out.cell 1 0 rfl rfl;have zc10:=B2.out.frozen 1 0 rfl;have c11:=B2.out.cell 1 1 rfl rfl;have zc11:=B2.out.frozen 1 1 rfl;have c12:=B2.out.cell 1 2 rfl rfl;have zc12:=B2.out.frozen 1 2 rfl;have c13:=B2.out.cell 1 3 rfl rfl;have zc13:=B2.out.frozen 1 3 rfl;have c14:=B2.out.cell 1 4 rfl rfl;have zc14:=B2.out.frozen 1 4 rfl;have c15:=B2.out.cell 1 5 rfl rfl;have zc15:=B2.out.frozen 1 5 rfl;simp only[Zy]at c00 c01 c02 zc00 zc01 zc02;by_cases hb:B<=tp
    · have hd:decide (B<=tp)=true:=Ze hb;have hr:Zav R T B ⟨true,1,tp,bt,gt,en⟩=(T,B,⟨true,1,tp,B,gt,2⟩):=by
        unfold Zav;rw[Zc rfl];unfold ZaS;rw[Zb (by show¬(1:Int)=0;decide),Zc rfl,Zc hb]
      rw[hr]at HG he;clear hr;clear hb;have B3:=Zf (((B2.out.set 1 1 rfl (.int .i64 1)).set 1 5 rfl (.int .i64 2)).drew 1)
      go_region
      go_wp2
      go_step3
      try simp only[Exit.inBlock,Exit.then]
      exact⟨by decide,_,ZZ _,⟨rfl,rfl,rfl,rfl,rfl⟩,fun _=>⟨T,B,⟨true,1,tp,B,gt,2⟩,true,0,f,rfl,Zf B3.out,rfl,HG,he⟩,fun h=>absurd rfl h⟩
    · have hd:decide (B<=tp)=false:=Zd hb;have hr:Zav R T B ⟨true,1,tp,bt,gt,en⟩=(T,B,⟨true,2,tp,B,gt,en⟩):=by
        unfold Zav;rw[Zc rfl];unfold ZaS;rw[Zb (by show¬(1:Int)=0;decide),Zc rfl,Zb hb]
      rw[hr]at HG he;clear hr;clear hb;have B3:=Zf (B2.out.drew 1)
      go_region
      go_wp2
      go_step3
      try simp only[Exit.inBlock,Exit.then]
      exact⟨by decide,_,ZZ _,⟨rfl,rfl,rfl,rfl,rfl⟩,fun _=>⟨T,B,⟨true,2,tp,B,gt,en⟩,true,0,f,rfl,Zf B3.out,rfl,HG,he⟩,fun h=>absurd rfl h⟩
  case p3=>
    clear ST CM hs;rintro m a0 w0 ⟨hfr, -,h⟩;obtain⟨u,rfl⟩:=hfr.lit;clear hfr;obtain⟨T,B,t,f,rfl,B1,hs,hc,ho,hl,HG,he⟩:=h (by decide);obtain⟨st,a,tp,bt,gt,en⟩:=t;obtain rfl:st=true:=hs;obtain⟨c1,c2,c3,c4,c5⟩:=hc;have hn0:0<n:=by have:=c1.bounds;omega
    have hn64:n<=64:=by have:=c1.bounds;omega
    have hab:=ZbD ho;have hen:en=0:=Zn fun q=>ho (.inl q);have hrng:0<=a/\a<=3:=by unfold Zbp at ho;simp only[not_or]at ho;have h1:=ho.2.1;have h2:=ho.2.2.1;simp at h1 h2;omega
    simp only at hab hl;clear h ho c1;obtain rfl:a=2:=by
      unfold lblD at hl;by_cases h0:a=0
      · rw[Zc h0]at hl;omega
      rw[Zb h0]at hl;by_cases h1:a=1
      · rw[Zc h1]at hl;omega
      rw[Zb h1]at hl;by_cases h2:a=2
      · rw[Zc h2]at hl;omega
      · rw[Zb h2]at hl;omega
    clear hl hrng;obtain⟨⟨k1,k2⟩,k3,k4⟩:=hab (by decide);have hr:Zav R T B ⟨true,2,tp,bt,gt,en⟩=(T,B,⟨true,3,tp,bt,ZaF R tp,en⟩):=by rfl
    rw[hr]at HG he;clear hr;obtain⟨p,hp⟩:∃p,p=plN n tp:=⟨_,rfl⟩;have hpn:p<n:=by rw[hp];exact Nat.mod_lt _ hn0
    have CP:=Zf (fun w=>ZdL A n c T B tp w hn0 hln (by omega));rw[<-hp]at CP;obtain⟨bb,off,x,hA0,hbb,hx,hcc⟩:=HQ.out.ints.at_ (k:=p) (by rw[HN.out];exact hpn);subst hA0;have hxe:ZaF R tp=x:=by rw[Zgv,HN.out,<-hp,List.getD_eq_getElem?_getD,hx];rfl
    have HBB:=Zf hbb;have HCC:=Zf hcc;rw[hxe]at HG he;clear hp hbb hx hcc hxe;go_upto_region 9 with fail;refine Zas 16 [54,55,56,57,58,59,60,61,62,63,64,65,66,67,68,69,70,71,1000,72,73,1001] [1] (by kernel_rfl) (by kernel_rfl) (by intro d hd;simp at hd⊢;omega) (fun y=>Rws wf (ZbL (some ⟨bb,off,none⟩) n c T B ⟨true,2,tp,bt,gt,en⟩ one 0 true) y) (ZrJ wf (some ⟨bb,off,none⟩) n c T B tp p off bb x) (fun _ v=>v=.pointer (some ⟨wf.heap.size+1,0,none⟩)) (ZsR wf (some ⟨bb,off,none⟩) n c T B true 2 tp bt gt en one x)
      (fun y y' h hb=>h.next hb) (fun k v y y' h hb=>Zkq k v y y' h) (B1.out.next (Below.refl _ _).drew) ?hstep ?hloose ?hmid ?htail ?hcon ?hend
    case hstep=>
      intro kq o hkm hkF ho a1 w hI hA hd K hK;obtain⟨ρ,hρ⟩:∃ρ,a1.eval=ρ:=⟨_,rfl⟩;rw[hρ]at hA hd
      match kq,hkm,hkF,ho with
      | 0, _, _, ho =>cases ho;exact Zab hK hρ (.pointer (some ⟨wf.heap.size+1,0,none⟩)) (by have h:=hA.tmp 1 (by decide);simp[Yae,h,go_sem]) rfl
      |1,_,hkF,_=>exact absurd (by decide) hkF
      | 2, _, _, ho =>cases ho;exact Zab hK hρ (.pointer (some ⟨wf.heap.size,0,none⟩)) (by have h:=hA.tmp 0 (by decide);simp[Yae,h,go_sem]) rfl
      | 3, _, _, ho =>
        cases ho;have f2:ρ (.tmp 56)=.pointer (some ⟨wf.heap.size,0,none⟩):=hd ⟨2,.data⟩ (by simp) (by rfl) (by decide)
        exact Zab hK hρ (.pointer (some ⟨wf.heap.size,0,none⟩)) (by simp[Yae,f2,go_sem]) rfl
      | 4, _, _, ho =>
        cases ho;have f3:ρ (.tmp 57)=.pointer (some ⟨wf.heap.size,0,none⟩):=hd ⟨3,.data⟩ (by simp) (by rfl) (by decide)
        exact Zab hK hρ (.pointer (some ⟨wf.heap.size,0,none⟩)) (by simp[Yae,f3,go_sem]) rfl
      | 5, _, _, ho =>
        cases ho;have f4:ρ (.tmp 58)=.pointer (some ⟨wf.heap.size,0,none⟩):=hd ⟨4,.data⟩ (by simp) (by rfl) (by decide)
        have h0:=hI.cell 0 0 rfl rfl;simp only[Zy]at h0;exact Zab hK hρ (.slice (some ⟨bb,off,none⟩) n c) (by simp[Yae,f4,h0,go_sem]) rfl
      | 6, _, _, ho =>cases ho;exact Zab hK hρ (.pointer (some ⟨wf.heap.size,0,none⟩)) (by have h:=hA.tmp 0 (by decide);simp[Yae,h,go_sem]) rfl
      | 7, _, _, ho =>
        cases ho;have f6:ρ (.tmp 60)=.pointer (some ⟨wf.heap.size,0,none⟩):=hd ⟨6,.data⟩ (by simp) (by rfl) (by decide)
        exact Zab hK hρ (.pointer (some ⟨wf.heap.size,0,none⟩)) (by simp[Yae,f6,go_sem]) rfl
      | 8, _, _, ho =>
        cases ho;have f7:ρ (.tmp 61)=.pointer (some ⟨wf.heap.size,0,none⟩):=hd ⟨7,.data⟩ (by simp) (by rfl) (by decide)
        have h0:=hI.cell 0 0 rfl rfl;have h1:=hI.cell 0 1 rfl rfl;have h2:=hI.cell 0 2 rfl rfl;simp only[Zy]at h0 h1 h2;exact Zab hK hρ (.agg #[.slice (some ⟨bb,off,none⟩) n c,.int .i64 T,.int .i64 B]) (by simp[Yae,f7,h0,h1,h2,go_sem]) rfl
      | 9, _, _, ho =>cases ho;exact Zab hK hρ (.pointer (some ⟨wf.heap.size+1,0,none⟩)) (by have h:=hA.tmp 1 (by decide);simp[Yae,h,go_sem]) rfl
      | 10, _, _, ho =>
        cases ho;have f9:ρ (.tmp 63)=.pointer (some ⟨wf.heap.size+1,0,none⟩):=hd ⟨9,.data⟩ (by simp) (by rfl) (by decide)
        exact Zab hK hρ (.pointer (some ⟨wf.heap.size+1,0,none⟩)) (by simp[Yae,f9,go_sem]) rfl
      | 11, _, _, ho =>
        cases ho;have f10:ρ (.tmp 64)=.pointer (some ⟨wf.heap.size+1,0,none⟩):=hd ⟨10,.data⟩ (by simp) (by rfl) (by decide)
        exact Zab hK hρ (.pointer (some ⟨wf.heap.size+1,2,none⟩)) (by simp[Yae,f10,go_sem]) rfl
      | 12, _, _, ho =>
        cases ho;have f11:ρ (.tmp 65)=.pointer (some ⟨wf.heap.size+1,2,none⟩):=hd ⟨11,.data⟩ (by simp) (by rfl) (by decide)
        have h0:=hI.cell 1 2 rfl rfl;exact Zab hK hρ (.int .i64 tp) (by simp[Yae,f11,h0,go_sem]) rfl
      | 13, _, _, ho =>
        cases ho;have f8:ρ (.tmp 62)=.agg #[.slice (some ⟨bb,off,none⟩) n c,.int .i64 T,.int .i64 B]:=hd ⟨8,.data⟩ (by simp) (by rfl) (by decide);have f12:ρ (.tmp 66)=.int .i64 tp:=hd ⟨12,.data⟩ (by simp) (by rfl) (by decide)
        exact ZaU hK hρ 203 _ _ #[.agg #[.slice (some ⟨bb,off,none⟩) n c,.int .i64 T,.int .i64 B],.int .i64 tp] rfl (by simp only[List.map_toArray,List.map_cons,List.map_nil,hA.const,f8,f12]) (Za1 func203 (by kernel_rfl) rfl) ((CP.out w).mono fun e w' ⟨he,hb⟩=>⟨_,he,rfl,hb⟩)
      | 14, _, _, ho =>
        cases ho;have f5:ρ (.tmp 59)=.slice (some ⟨bb,off,none⟩) n c:=hd ⟨5,.data⟩ (by simp) (by rfl) (by decide);have f13:ρ (.tmp 67)=.int .i64 p:=hd ⟨13,.data⟩ (by simp) (by rfl) (by decide)
        exact Zab hK hρ (.pointer (some ⟨bb,off+p,none⟩)) (by simp[Yae,f5,f13,go_sem];omega) rfl
      | 15, _, _, ho =>
        cases ho;have f14:ρ (.tmp 68)=.pointer (some ⟨bb,off+p,none⟩):=hd ⟨14,.data⟩ (by simp) (by rfl) (by decide)
        have h0:=(hI.bel.cell (p:=⟨bb,off+p,none⟩) HBB.out).trans HCC.out;exact Zab hK hρ (.int .i64 x) (by simp[Yae,f14,h0,go_sem]) rfl
      |kq+16,h,_,_=>exact absurd h (by omega)
    case hloose=>intro kq o hkF ho ρ w hA hd;simp only[List.mem_cons,List.not_mem_nil,or_false]at hkF;subst hkF;cases ho;exact⟨.pointer (some ⟨wf.heap.size+1,0,none⟩),by have h:=hA.tmp 1 (by decide);simp[Yae,h,go_sem],rfl⟩
    case hmid=>intro vals w hI hF;exact⟨Nat.le_refl _,by decide,hF 0 (by decide) (by decide),hF 15 (by decide) (by decide),fun h=>Za h,fun h=>Za h,fun h=>Za h,fun h=>Za h,fun _=>hI,fun h=>Za h,fun h=>Za h⟩
    case htail=>
      intro t o htm ho a1 w hA hT hL K hK;obtain⟨t1,t2,g0,g15,g16,g17,g19,g20,r0,r1,r2⟩:=hT;have htl:t<22:=(Array.getElem?_eq_some_iff.1 ho).1;obtain⟨ρ,hρ⟩:∃ρ,a1.eval=ρ:=⟨_,rfl⟩;rw[hρ]at hA hL;simp only[hρ]at g0 g15 g16 g17 g19 g20;obtain rfl|rfl|rfl|rfl|rfl|rfl:t=16\/t=17\/t=18\/t=19\/t=20\/t=21:=by omega
      · cases ho;unfold Z0;rw[show(Yae a1.eval _).run Zg w=.ok (.value (.pointer (some ⟨wf.heap.size+1,0,none⟩))) w from by rw[hρ];simp[Yae,g0,go_sem],ZN];refine hK _ _ ⟨by decide,by decide,?_⟩;simp only[ZB,ZR,if_false,if_true,hρ];exact⟨g0,g15,fun _=>rfl,fun h=>Za h,fun h=>Za h,fun h=>Za h,fun _=>r0 (by decide),fun h=>Za h,fun h=>Za h⟩
      · cases ho;unfold Z0;rw[show(Yae a1.eval _).run Zg w=.ok (.value (.pointer (some ⟨wf.heap.size+1,4,none⟩))) w from by rw[hρ];simp[Yae,g16 (by decide),go_sem],ZN];refine hK _ _ ⟨by decide,by decide,?_⟩;simp only[ZB,ZR,if_false,if_true,hρ];exact⟨g0,g15,fun _=>g16 (by decide),fun _=>rfl,fun h=>Za h,fun h=>Za h,fun _=>r0 (by decide),fun h=>Za h,fun h=>Za h⟩
      · cases ho;have hr:=r0 (by decide);have e1:=hr.cell 1 4 rfl rfl;have e2:=hr.frozen 1 4 rfl;unfold Z0;rw[show(Yae a1.eval _).run Zg w=.ok .skip (w.setCell ⟨wf.heap.size+1,4,none⟩ (.int .i64 x))from by rw[hρ];simp[Yae,g15,g17 (by decide),e1,e2,hA.const,go_sem],YH];refine hK Yag _ ⟨by decide,by decide,?_⟩;simp only[reduceCtorEq,if_false,hρ];exact⟨g0,g15,fun _=>g16 (by decide),fun _=>g17 (by decide),fun h=>Za h,fun h=>Za h,fun h=>Za h,fun _ _=>hr.set 1 4 rfl (.int .i64 x),fun h=>Za h⟩
      · cases ho;have hl1:ρ (.tmp 55)=.pointer (some ⟨wf.heap.size+1,0,none⟩):=hL ⟨1,.data⟩ (by simp) (by rfl) (by decide);unfold Z0;rw[show(Yae a1.eval _).run Zg w=.ok (.value (.pointer (some ⟨wf.heap.size+1,0,none⟩))) w from by rw[hρ];simp[Yae,hl1,go_sem],ZN];refine hK _ _ ⟨by decide,by decide,?_⟩;simp only[ZB,ZR,if_false,if_true,hρ];exact⟨g0,g15,fun _=>g16 (by decide),fun _=>g17 (by decide),fun _=>rfl,fun h=>Za h,fun h=>Za h,fun _ _=>r1 (by decide) (by decide),fun h=>Za h⟩
      · cases ho;unfold Z0;rw[show(Yae a1.eval _).run Zg w=.ok (.value (.pointer (some ⟨wf.heap.size+1,1,none⟩))) w from by rw[hρ];simp[Yae,g19 (by decide),go_sem],ZN];refine hK _ _ ⟨by decide,by decide,?_⟩;simp only[ZB,ZR,if_false,if_true,hρ];exact⟨g0,g15,fun _=>g16 (by decide),fun _=>g17 (by decide),fun _=>g19 (by decide),fun _=>rfl,fun h=>Za h,fun _ _=>r1 (by decide) (by decide),fun h=>Za h⟩
      · cases ho;have hr:=r1 (by decide) (by decide);have e1:=hr.cell 1 1 rfl rfl;have e2:=hr.frozen 1 1 rfl;unfold Z0;rw[show(Yae a1.eval _).run Zg w=.ok .skip (w.setCell ⟨wf.heap.size+1,1,none⟩ (.int .i64 3))from by rw[hρ];simp[Yae,g20 (by decide),e1,e2,hA.const,go_sem],YH];refine hK Yag _ ⟨by decide,by decide,?_⟩;simp only[reduceCtorEq,if_false,hρ];exact⟨g0,g15,fun _=>g16 (by decide),fun _=>g17 (by decide),fun _=>g19 (by decide),fun _=>g20 (by decide),fun h=>Za h,fun _ h=>Za h,fun _=>hr.set 1 1 rfl (.int .i64 3)⟩
    case hcon=>intro t f g w h hT;obtain⟨t1,t2,g0,g15,g16,g17,g19,g20,r0,r1,r2⟩:=hT;exact⟨t1,t2,(h 0 (by omega) (by decide)).symm.trans g0,(h 15 (by omega) (by decide)).symm.trans g15,fun h1=>(h 16 (by omega) (by decide)).symm.trans (g16 h1),fun h1=>(h 17 (by omega) (by decide)).symm.trans (g17 h1),fun h1=>(h 19 (by omega) (by decide)).symm.trans (g19 h1),fun h1=>(h 20 (by omega) (by decide)).symm.trans (g20 h1),r0,r1,r2⟩
    case hend=>
      intro vals w3 hT;obtain⟨_,_,_,_,_,_,_,_,_,_,r2⟩:=hT;have B2:=Zf (r2 rfl);clear r2;simp only[ZaW,Zba,List.contains_cons,List.contains_nil,Nat.reduceBEq,Bool.or_false,Bool.false_or,Bool.or_true,Bool.true_or,cond_true,cond_false,Nat.zero_add,Nat.reduceAdd];go_wp2
      go_step3
      try simp only[Exit.inBlock,Exit.then]
      exact⟨by decide,_,ZZ _,⟨rfl,rfl,rfl,rfl,rfl⟩,fun _=>⟨T,B,⟨true,3,tp,bt,x,en⟩,true,0,f,rfl,Zf B2.out,rfl,HG,he⟩,fun h=>absurd rfl h⟩
  case p4=>
    clear ST CM hs;rintro m a0 w0 ⟨hfr, -,h⟩;obtain⟨u,rfl⟩:=hfr.lit;clear hfr;obtain⟨T,B,t,f,rfl,B1,hs,hc,ho,hl,HG,he⟩:=h (by decide);obtain⟨st,a,tp,bt,gt,en⟩:=t;obtain rfl:st=true:=hs;obtain⟨c1,c2,c3,c4,c5⟩:=hc;have hn0:0<n:=by have:=c1.bounds;omega
    have hn64:n<=64:=by have:=c1.bounds;omega
    have hab:=ZbD ho;have hen:en=0:=Zn fun q=>ho (.inl q);have hrng:0<=a/\a<=3:=by unfold Zbp at ho;simp only[not_or]at ho;have h1:=ho.2.1;have h2:=ho.2.2.1;simp at h1 h2;omega
    simp only at hab hl;clear h ho c1;have ha:a≠0/\a≠1/\a≠2:=by
      unfold lblD at hl;by_cases h0:a=0
      · rw[Zc h0]at hl;omega
      rw[Zb h0]at hl;by_cases h1:a=1
      · rw[Zc h1]at hl;omega
      rw[Zb h1]at hl;by_cases h2:a=2
      · rw[Zc h2]at hl;omega
      · exact⟨h0,h1,h2⟩
    clear hl;obtain⟨⟨k1,k2⟩,k3,k4⟩:=hab ha.1;obtain rfl:a=3:=by omega
    clear ha hrng;have c00:=B1.out.cell 0 0 rfl rfl;have zc00:=B1.out.frozen 0 0 rfl;have c01:=B1.out.cell 0 1 rfl rfl;have zc01:=B1.out.frozen 0 1 rfl;have c02:=B1.out.cell 0 2 rfl rfl;have zc02:=B1.out.frozen 0 2 rfl;have c10:=B1.out.cell 1 0 rfl rfl;have zc10:=B1.out.frozen 1 0 rfl;have c11:=B1.out.cell 1 1 rfl rfl;have zc11:=B1.out.frozen 1 1 rfl;have c12:=B1.out.cell 1 2 rfl rfl;have zc12:=B1.out.frozen 1 2 rfl;have c13:=B1.out.cell 1 3 rfl rfl;have zc13:=B1.out.frozen 1 3 rfl;have c14:=B1.out.cell 1 4 rfl rfl;have zc14:=B1.out.frozen 1 4 rfl;have c15:=B1.out.cell 1 5 rfl rfl;have zc15:=B1.out.frozen 1 5 rfl;simp only[Zy]at c00 c01 c02 zc00 zc01 zc02;by_cases hb:T=tp
    · have hd:(T==tp)=true:=by rw[beq_iff_eq];exact hb
      have hr:Zav R T B ⟨true,3,tp,bt,gt,en⟩=(T+1,B,⟨true,3,tp,bt,gt,1⟩):=by unfold Zav;rw[Zc rfl];unfold ZaS;rw[Zb (by show¬(3:Int)=0;decide),Zb (by show¬(3:Int)=1;decide),Zb (by show¬(3:Int)=2;decide),Zc hb]
      rw[hr]at HG he;clear hr;clear hb;have B3:=Zf (((B1.out.set 0 1 rfl (.int .i64 (T+1))).set 1 5 rfl (.int .i64 1)).drew 1);go_wp2
      go_region
      go_wp2
      go_step3
      try simp only[Exit.inBlock,Exit.then]
      exact⟨by decide,_,ZZ _,⟨rfl,rfl,rfl,rfl,rfl⟩,fun _=>⟨(T+1),B,⟨true,3,tp,bt,gt,1⟩,true,0,f,rfl,Zf B3.out,rfl,HG,he⟩,fun h=>absurd rfl h⟩
    · have hd:(T==tp)=false:=beq_eq_false_iff_ne.mpr hb;have hr:Zav R T B ⟨true,3,tp,bt,gt,en⟩=(T,B,⟨true,3,tp,bt,0,3⟩):=by
        unfold Zav;rw[Zc rfl];unfold ZaS;rw[Zb (by show¬(3:Int)=0;decide),Zb (by show¬(3:Int)=1;decide),Zb (by show¬(3:Int)=2;decide),Zb hb]
      rw[hr]at HG he;clear hr;clear hb;have B3:=Zf (((B1.out.set 1 4 rfl (.int .i64 0)).set 1 5 rfl (.int .i64 3)).drew 1);go_wp2
      go_region
      go_wp2
      go_step3
      try simp only[Exit.inBlock,Exit.then]
      exact⟨by decide,_,ZZ _,⟨rfl,rfl,rfl,rfl,rfl⟩,fun _=>⟨T,B,⟨true,3,tp,bt,0,3⟩,true,0,f,rfl,Zf B3.out,rfl,HG,he⟩,fun h=>absurd rfl h⟩
end
end Go.Proofs.YtfahabphncmbfaaGreatDoor
