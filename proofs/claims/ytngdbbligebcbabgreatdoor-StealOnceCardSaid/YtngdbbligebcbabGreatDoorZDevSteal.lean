import Derived.Test.YtngdbbligebcbabGreatDoorZM19
set_option linter.unusedVariables false
set_option linter.unusedSimpArgs false
set_option maxRecDepth 100000
set_option maxHeartbeats 16000000
namespace Go.Proofs.YtngdbbligebcbabGreatDoor
open Go Go.RowKit
def PhiSt(wf:World)(A:Option Addr)(n c:Nat)(T B:Int)(k0:Int)(p off bb:Nat)(x:Int):Nat->Value->World->Prop
 |0,v,w=>v= .pointer (some ⟨wf.heap.size+1,0,none⟩)
 |1,v,w=>v= .pointer (some ⟨wf.heap.size+1,0,none⟩)
 |2,v,w=>v= .pointer (some ⟨wf.heap.size,0,none⟩)
 |3,v,w=>v= .pointer (some ⟨wf.heap.size,0,none⟩)
 |4,v,w=>v= .pointer (some ⟨wf.heap.size,0,none⟩)
 |5,v,w=>v= .slice (some ⟨bb,off,none⟩) n c
 |6,v,w=>v= .pointer (some ⟨wf.heap.size,0,none⟩)
 |7,v,w=>v= .pointer (some ⟨wf.heap.size,0,none⟩)
 |8,v,w=>v= .agg #[.slice (some ⟨bb,off,none⟩) n c,.int .i64 T,.int .i64 B]
 |9,v,w=>v= .pointer (some ⟨wf.heap.size+1,0,none⟩)
 |10,v,w=>v= .pointer (some ⟨wf.heap.size+1,0,none⟩)
 |11,v,w=>v= .pointer (some ⟨wf.heap.size+1,2,none⟩)
 |12,v,w=>v= .int .i64 k0
 |13,v,w=>v= .int .i64 p
 |14,v,w=>v= .pointer (some ⟨bb,off+p,none⟩)
 |15,v,w=>v= .int .i64 x
 |_,_,_=>True
theorem phiSt_still{wf:World}{A:Option Addr}{n c:Nat}{T B:Int}{k0:Int}{p off bb:Nat}{x:Int}: ∀k v w w',PhiSt wf A n c T B k0 p off bb x k v w->PhiSt wf A n c T B k0 p off bb x k v w':=by
 intro k v w w' h
 match k,h with
 |0,h=>exact h
 |1,h=>exact h
 |2,h=>exact h
 |3,h=>exact h
 |4,h=>exact h
 |5,h=>exact h
 |6,h=>exact h
 |7,h=>exact h
 |8,h=>exact h
 |9,h=>exact h
 |10,h=>exact h
 |11,h=>exact h
 |12,h=>exact h
 |13,h=>exact h
 |14,h=>exact h
 |15,h=>exact h
 |k+16,h=>exact trivial
def ThtSt(wf:World)(A:Option Addr)(n c:Nat)(T B:Int)(st:Bool)(a tp bt gt en:Int)(one:Bool)(x:Int)(t:Nat)(f:Nat->Value)(w:World):Prop:=
 16<=t/\t<=22/\f 54= .pointer (some ⟨wf.heap.size+1,0,none⟩)/\f 69= .int .i64 x/\(17<=t->f 70= .pointer (some ⟨wf.heap.size+1,0,none⟩))/\(18<=t->f 71= .pointer (some ⟨wf.heap.size+1,4,none⟩))/\(20<=t->f 72= .pointer (some ⟨wf.heap.size+1,0,none⟩))/\(21<=t->f 73= .pointer (some ⟨wf.heap.size+1,1,none⟩))/\
  (t<=18->Rws wf (rowsR A n c T B ⟨st,a,tp,bt,gt,en⟩ one 0 true) w)/\(19<=t->t<=21->Rws wf (rowsR A n c T B ⟨st,a,tp,bt,x,en⟩ one 0 true) w)/\(t=22->Rws wf (rowsR A n c T B ⟨st,3,tp,bt,x,en⟩ one 0 true) w)
def FrSteal(wf:World)(a:Act):Prop:=a.defers= []/\a.tmps.size=99/\a.tmps.getD 0 undef= .pointer (some ⟨wf.heap.size,0,none⟩)/\a.tmps.getD 1 undef= .pointer (some ⟨wf.heap.size+1,0,none⟩)/\a.tmps.getD 2 undef= .func (.func 151) #[] #[.pointer (some ⟨wf.heap.size,0,none⟩),.pointer (some ⟨wf.heap.size+1+1+1+1+1,0,none⟩),.pointer (some ⟨wf.heap.size+1+1+1+1+1+1,0,none⟩),.pointer (some ⟨wf.heap.size+1+1,0,none⟩),.pointer (some ⟨wf.heap.size+1,0,none⟩)]
theorem FrSteal.lit{wf:World}{a:Act}(h:FrSteal wf a): ∃u:Nat->Value,a={tmps:=#[.pointer (some ⟨wf.heap.size,0,none⟩),.pointer (some ⟨wf.heap.size+1,0,none⟩),.func (.func 151) #[] #[.pointer (some ⟨wf.heap.size,0,none⟩),.pointer (some ⟨wf.heap.size+1+1+1+1+1,0,none⟩),.pointer (some ⟨wf.heap.size+1+1+1+1+1+1,0,none⟩),.pointer (some ⟨wf.heap.size+1+1,0,none⟩),.pointer (some ⟨wf.heap.size+1,0,none⟩)],u 3,u 4,u 5,u 6,u 7,u 8,u 9,u 10,u 11,u 12,u 13,u 14,u 15,u 16,u 17,u 18,u 19,u 20,u 21,u 22,u 23,u 24,u 25,u 26,u 27,u 28,u 29,u 30,u 31,u 32,u 33,u 34,u 35,u 36,u 37,u 38,u 39,u 40,u 41,u 42,u 43,u 44,u 45,u 46,u 47,u 48,u 49,u 50,u 51,u 52,u 53,u 54,u 55,u 56,u 57,u 58,u 59,u 60,u 61,u 62,u 63,u 64,u 65,u 66,u 67,u 68,u 69,u 70,u 71,u 72,u 73,u 74,u 75,u 76,u 77,u 78,u 79,u 80,u 81,u 82,u 83,u 84,u 85,u 86,u 87,u 88,u 89,u 90,u 91,u 92,u 93,u 94,u 95,u 96,u 97,u 98],defers:=[]}:=by
 obtain⟨xs,ds⟩:=a;obtain⟨h1,h2,h3,h4,h5⟩:=h;simp only at h1 h2 h3 h4 h5;refine⟨fun k=>xs.getD k undef,?_⟩
 have e:=frame_all h2;have e2:(List.range 99).map (fun k=>xs.getD k undef)= [xs.getD 0 undef,xs.getD 1 undef,xs.getD 2 undef,xs.getD 3 undef,xs.getD 4 undef,xs.getD 5 undef,xs.getD 6 undef,xs.getD 7 undef,xs.getD 8 undef,xs.getD 9 undef,xs.getD 10 undef,xs.getD 11 undef,xs.getD 12 undef,xs.getD 13 undef,xs.getD 14 undef,xs.getD 15 undef,xs.getD 16 undef,xs.getD 17 undef,xs.getD 18 undef,xs.getD 19 undef,xs.getD 20 undef,xs.getD 21 undef,xs.getD 22 undef,xs.getD 23 undef,xs.getD 24 undef,xs.getD 25 undef,xs.getD 26 undef,xs.getD 27 undef,xs.getD 28 undef,xs.getD 29 undef,xs.getD 30 undef,xs.getD 31 undef,xs.getD 32 undef,xs.getD 33 undef,xs.getD 34 undef,xs.getD 35 undef,xs.getD 36 undef,xs.getD 37 undef,xs.getD 38 undef,xs.getD 39 undef,xs.getD 40 undef,xs.getD 41 undef,xs.getD 42 undef,xs.getD 43 undef,xs.getD 44 undef,xs.getD 45 undef,xs.getD 46 undef,xs.getD 47 undef,xs.getD 48 undef,xs.getD 49 undef,xs.getD 50 undef,xs.getD 51 undef,xs.getD 52 undef,xs.getD 53 undef,xs.getD 54 undef,xs.getD 55 undef,xs.getD 56 undef,xs.getD 57 undef,xs.getD 58 undef,xs.getD 59 undef,xs.getD 60 undef,xs.getD 61 undef,xs.getD 62 undef,xs.getD 63 undef,xs.getD 64 undef,xs.getD 65 undef,xs.getD 66 undef,xs.getD 67 undef,xs.getD 68 undef,xs.getD 69 undef,xs.getD 70 undef,xs.getD 71 undef,xs.getD 72 undef,xs.getD 73 undef,xs.getD 74 undef,xs.getD 75 undef,xs.getD 76 undef,xs.getD 77 undef,xs.getD 78 undef,xs.getD 79 undef,xs.getD 80 undef,xs.getD 81 undef,xs.getD 82 undef,xs.getD 83 undef,xs.getD 84 undef,xs.getD 85 undef,xs.getD 86 undef,xs.getD 87 undef,xs.getD 88 undef,xs.getD 89 undef,xs.getD 90 undef,xs.getD 91 undef,xs.getD 92 undef,xs.getD 93 undef,xs.getD 94 undef,xs.getD 95 undef,xs.getD 96 undef,xs.getD 97 undef,xs.getD 98 undef]:=rfl
 rw[e2,h3,h4,h5]at e;subst h1;rw[Act.mk.injEq];exact⟨e,rfl⟩
section
variable {A: Option Addr} {n c: Nat} {R: List Int}
theorem dsteal_any(T B:Int)(t:Tkr)(one b:Bool)(z:Int)(f:Nat)(wf wr:World)(hq:IsQ wf A n c R)(hT:DTab wf)(hs:t.steal=true)(hf:Enough one b t f)(B0:Rws wf (rowsR A n c T B t one z b) wr):
    Calls Tryz.prog 153 #[.pointer (some ⟨wf.heap.size,0,none⟩), .pointer (some ⟨wf.heap.size+1,0,none⟩), .func (.func 151) #[] #[.pointer (some ⟨wf.heap.size,0,none⟩), .pointer (some ⟨wf.heap.size+1+1+1+1+1,0,none⟩), .pointer (some ⟨wf.heap.size+1+1+1+1+1+1,0,none⟩), .pointer (some ⟨wf.heap.size+1+1,0,none⟩), .pointer (some ⟨wf.heap.size+1,0,none⟩)]] wr (GoneGo wf A n c one (goD R one f b T B t)):=by
  obtain⟨S,hS⟩: ∃S,S=goD R one f b T B t:=⟨_,rfl⟩;rw[<-hS];have HN:=Lib.hid hq.hn;have HQ:=Lib.hid hq;have hln:=hq.ln;have CM:=Lib.hid (fun(T B:Int) (t:Tkr) (b:Bool) (z:Int) (wr:World) h=>dmay_any (A:=A) (n:=n) (c:=c) T B t one b z wf wr hln hT h)
  have ST:Hid (AtNext wf A n c R one true S (2 * f) wr):=Lib.hid ⟨T,B,t,b,z,f,rfl,Lib.hid B0,hs,Lib.hid hS.symm,hf⟩;clear hS hq hT B0 hf;go_enter Tryz.func153,Tryz.ntmps153;refine wp_scope_five (AtLabel wf A n c R one true S (FrSteal wf)) rfl rfl rfl rfl ⟨_,⟨rfl,rfl,rfl,rfl,rfl⟩,fun _=>ST.out,fun h=>absurd rfl h⟩ ?p0 ?p1 ?p2 ?p3 ?p4
  case p0=>
    clear ST hs;rintro m a0 w0 ⟨hfr,h, -⟩;obtain⟨u,rfl⟩:=hfr.lit;clear hfr;obtain⟨T,B,t,b,z,f,rfl,B0,hs,HG,he⟩:=h rfl;have CC:=Lib.hid (CM.out T B t b z w0 B0.out);clear h CM;go_wp2_with fail;refine CC.out.mono ?_
    rintro e w1 ⟨rfl,b1⟩;have B1:=Lib.hid b1;clear b1 B0 CC;obtain⟨g,hg⟩: ∃g,mayG n T B t one b=g:=⟨_,rfl⟩;rw[hg]at B1⊢;cases g
    · have HF:=Lib.hid (FinGo.of HN.out HG.out he hg B1.out);clear HG he hg B1;go_wp2;simp only[toLabels];refine bodyPost_ret (v:= .tuple #[]) (results_none rfl _ _ _) rfl ⟨rfl,HF.out⟩
    · obtain⟨m',hm,hst⟩:=AtStep.of HN.out HG.out he hg hs B1.out;have HST:=Lib.hid hst;clear HG he hg hs hst;obtain⟨st,a,tp,bt,gt,en⟩:=t;have c11:=B1.out.cell 1 1 rfl rfl;simp only at HST;clear B1
      by_cases a0:a=0
      · have e0:(a==0)=true:=by rw[beq_iff_eq];exact a0
        have HL:Hid (lblD a=1):=Lib.hid (by unfold lblD;rw[if_pos a0])
        clear a0;go_wp2
        go_step3
        simp only[Exit.inBlock,Exit.then]
        exact⟨by decide,_,hm,⟨rfl,rfl,rfl,rfl,rfl⟩,fun h=>absurd h (by decide),fun _=>HL.out▸HST.out⟩
      have e0:(a==0)=false:=beq_eq_false_iff_ne.mpr a0
      by_cases a1:a=1
      · have e1:(a==1)=true:=by rw[beq_iff_eq];exact a1
        have HL:Hid (lblD a=2):=Lib.hid (by unfold lblD;rw[if_neg a0,if_pos a1])
        clear a0 a1;go_wp2
        go_step3
        simp only[Exit.inBlock,Exit.then]
        exact⟨by decide,_,hm,⟨rfl,rfl,rfl,rfl,rfl⟩,fun h=>absurd h (by decide),fun _=>HL.out▸HST.out⟩
      have e1:(a==1)=false:=beq_eq_false_iff_ne.mpr a1
      by_cases a2:a=2
      · have e2:(a==2)=true:=by rw[beq_iff_eq];exact a2
        have HL:Hid (lblD a=3):=Lib.hid (by unfold lblD;rw[if_neg a0,if_neg a1,if_pos a2])
        clear a0 a1 a2;go_wp2
        go_step3
        simp only[Exit.inBlock,Exit.then]
        exact⟨by decide,_,hm,⟨rfl,rfl,rfl,rfl,rfl⟩,fun h=>absurd h (by decide),fun _=>HL.out▸HST.out⟩
      · have e2:(a==2)=false:=beq_eq_false_iff_ne.mpr a2;have HL:Hid (lblD a=4):=Lib.hid (by unfold lblD;rw[if_neg a0,if_neg a1,if_neg a2])
        clear a0 a1 a2;go_wp2
        go_step3
        simp only[Exit.inBlock,Exit.then]
        exact⟨by decide,_,hm,⟨rfl,rfl,rfl,rfl,rfl⟩,fun h=>absurd h (by decide),fun _=>HL.out▸HST.out⟩
  case p1=>
    clear ST CM hs;rintro m a0 w0 ⟨hfr, -,h⟩;obtain⟨u,rfl⟩:=hfr.lit;clear hfr;obtain⟨T,B,t,f,rfl,B1,hs,hc,ho,hl,HG,he⟩:=h (by decide)
    obtain⟨st,a,tp,bt,gt,en⟩:=t;obtain rfl:st=true:=hs;obtain⟨c1,c2,c3,c4,c5⟩:=hc;have hn0:0<n:=by have:=c1.bounds;omega
    have hn64:n<=64:=by have:=c1.bounds;omega
    have hab:=not_over_d ho;have hen:en=0:=Classical.byContradiction fun q=>ho (.inl q)
    have hrng:0<=a/\a<=3:=by
      unfold OverT at ho;simp only[not_or]at ho;have h1:=ho.2.1;have h2:=ho.2.2.1;simp at h1 h2;omega
    simp only at hab hl;clear h ho c1;obtain rfl:a=0:=by
      unfold lblD at hl
      by_cases h0:a=0
      · rw[if_pos h0]at hl;omega
      rw[if_neg h0]at hl
      by_cases h1:a=1
      · rw[if_pos h1]at hl;omega
      rw[if_neg h1]at hl
      by_cases h2:a=2
      · rw[if_pos h2]at hl;omega
      · rw[if_neg h2]at hl;omega
    clear hl hrng;have hr:moveD R T B ⟨true,0,tp,bt,gt,en⟩=(T,B,⟨true,1,T,bt,gt,en⟩):=by
      rfl
    rw[hr]at HG he;clear hr;have c00:=B1.out.cell 0 0 rfl rfl;have zc00:=B1.out.frozen 0 0 rfl;have c01:=B1.out.cell 0 1 rfl rfl;have zc01:=B1.out.frozen 0 1 rfl;have c02:=B1.out.cell 0 2 rfl rfl;have zc02:=B1.out.frozen 0 2 rfl;have c10:=B1.out.cell 1 0 rfl rfl;have zc10:=B1.out.frozen 1 0 rfl;have c11:=B1.out.cell 1 1 rfl rfl;have zc11:=B1.out.frozen 1 1 rfl;have c12:=B1.out.cell 1 2 rfl rfl;have zc12:=B1.out.frozen 1 2 rfl;have c13:=B1.out.cell 1 3 rfl rfl;have zc13:=B1.out.frozen 1 3 rfl;have c14:=B1.out.cell 1 4 rfl rfl;have zc14:=B1.out.frozen 1 4 rfl;have c15:=B1.out.cell 1 5 rfl rfl;have zc15:=B1.out.frozen 1 5 rfl;simp only[Nat.add_zero]at c00 c01 c02 zc00 zc01 zc02;have B2:=Lib.hid ((B1.out.set 1 2 rfl (.int .i64 T)).set 1 1 rfl (.int .i64 1));go_wp2
    go_step3
    try simp only[Exit.inBlock,Exit.then]
    exact⟨by decide,_,Nat.lt_succ_self _,⟨rfl,rfl,rfl,rfl,rfl⟩,fun _=>⟨T,B,⟨true,1,T,bt,gt,en⟩,true,0,f,rfl,Lib.hid B2.out,rfl,HG,he⟩,fun h=>absurd rfl h⟩
  case p2=>
    clear ST CM hs;rintro m a0 w0 ⟨hfr, -,h⟩;obtain⟨u,rfl⟩:=hfr.lit;clear hfr;obtain⟨T,B,t,f,rfl,B1,hs,hc,ho,hl,HG,he⟩:=h (by decide)
    obtain⟨st,a,tp,bt,gt,en⟩:=t;obtain rfl:st=true:=hs;obtain⟨c1,c2,c3,c4,c5⟩:=hc;have hn0:0<n:=by have:=c1.bounds;omega
    have hn64:n<=64:=by have:=c1.bounds;omega
    have hab:=not_over_d ho;have hen:en=0:=Classical.byContradiction fun q=>ho (.inl q)
    have hrng:0<=a/\a<=3:=by
      unfold OverT at ho;simp only[not_or]at ho;have h1:=ho.2.1;have h2:=ho.2.2.1;simp at h1 h2;omega
    simp only at hab hl;clear h ho c1;obtain rfl:a=1:=by
      unfold lblD at hl
      by_cases h0:a=0
      · rw[if_pos h0]at hl;omega
      rw[if_neg h0]at hl
      by_cases h1:a=1
      · rw[if_pos h1]at hl;omega
      rw[if_neg h1]at hl
      by_cases h2:a=2
      · rw[if_pos h2]at hl;omega
      · rw[if_neg h2]at hl;omega
    clear hl hrng;have c00:=B1.out.cell 0 0 rfl rfl;have zc00:=B1.out.frozen 0 0 rfl;have c01:=B1.out.cell 0 1 rfl rfl;have zc01:=B1.out.frozen 0 1 rfl;have c02:=B1.out.cell 0 2 rfl rfl;have zc02:=B1.out.frozen 0 2 rfl;have c10:=B1.out.cell 1 0 rfl rfl;have zc10:=B1.out.frozen 1 0 rfl;have c11:=B1.out.cell 1 1 rfl rfl;have zc11:=B1.out.frozen 1 1 rfl;have c12:=B1.out.cell 1 2 rfl rfl;have zc12:=B1.out.frozen 1 2 rfl;have c13:=B1.out.cell 1 3 rfl rfl;have zc13:=B1.out.frozen 1 3 rfl;have c14:=B1.out.cell 1 4 rfl rfl;have zc14:=B1.out.frozen 1 4 rfl;have c15:=B1.out.cell 1 5 rfl rfl;have zc15:=B1.out.frozen 1 5 rfl;simp only[Nat.add_zero]at c00 c01 c02 zc00 zc01 zc02;obtain⟨w2,hw2,B2⟩: ∃w2,w2=(w0.setCell ⟨wf.heap.size+1,3,none⟩ (.int .i64 B)).setCell ⟨wf.heap.size+1,1,none⟩ (.int .i64 2)/\Hid (Rws wf (rowsR A n c T B ⟨true,2,tp,B,gt,en⟩ one 0 true) w2):=⟨_,rfl,Lib.hid ((B1.out.set 1 3 rfl (.int .i64 B)).set 1 1 rfl (.int .i64 2))⟩;have HW2:=Lib.hid hw2;clear hw2;go_upto_region 7 with fail;rw[<-HW2.out];clear HW2 B1 c00 zc00 c01 zc01 c02 zc02 c10 zc10 c11 zc11 c12 zc12 c13 zc13 c14 zc14 c15 zc15;have c00:=B2.out.cell 0 0 rfl rfl;have zc00:=B2.out.frozen 0 0 rfl;have c01:=B2.out.cell 0 1 rfl rfl;have zc01:=B2.out.frozen 0 1 rfl;have c02:=B2.out.cell 0 2 rfl rfl;have zc02:=B2.out.frozen 0 2 rfl;have c10:=B2.out.cell 1 0 rfl rfl;have zc10:=B2.out.frozen 1 0 rfl;have c11:=B2.out.cell 1 1 rfl rfl;have zc11:=B2.out.frozen 1 1 rfl;have c12:=B2.out.cell 1 2 rfl rfl;have zc12:=B2.out.frozen 1 2 rfl;have c13:=B2.out.cell 1 3 rfl rfl;have zc13:=B2.out.frozen 1 3 rfl;have c14:=B2.out.cell 1 4 rfl rfl;have zc14:=B2.out.frozen 1 4 rfl;have c15:=B2.out.cell 1 5 rfl rfl;have zc15:=B2.out.frozen 1 5 rfl;simp only[Nat.add_zero]at c00 c01 c02 zc00 zc01 zc02
    by_cases hb:B<=tp
    · have hd:decide (B<=tp)=true:=decide_eq_true hb;have hr:moveD R T B ⟨true,1,tp,bt,gt,en⟩=(T,B,⟨true,1,tp,B,gt,2⟩):=by
        unfold moveD;rw[if_pos rfl];unfold thiefD;rw[if_neg (by show¬(1:Int)=0;decide),if_pos rfl,if_pos hb]
      rw[hr]at HG he;clear hr;clear hb;have B3:=Lib.hid (((B2.out.set 1 1 rfl (.int .i64 1)).set 1 5 rfl (.int .i64 2)).drew 1)
      go_region
      go_wp2
      go_step3
      try simp only[Exit.inBlock,Exit.then]
      exact⟨by decide,_,Nat.lt_succ_self _,⟨rfl,rfl,rfl,rfl,rfl⟩,fun _=>⟨T,B,⟨true,1,tp,B,gt,2⟩,true,0,f,rfl,Lib.hid B3.out,rfl,HG,he⟩,fun h=>absurd rfl h⟩
    · have hd:decide (B<=tp)=false:=decide_eq_false hb;have hr:moveD R T B ⟨true,1,tp,bt,gt,en⟩=(T,B,⟨true,2,tp,B,gt,en⟩):=by
        unfold moveD;rw[if_pos rfl];unfold thiefD;rw[if_neg (by show¬(1:Int)=0;decide),if_pos rfl,if_neg hb]
      rw[hr]at HG he;clear hr;clear hb;have B3:=Lib.hid (B2.out.drew 1)
      go_region
      go_wp2
      go_step3
      try simp only[Exit.inBlock,Exit.then]
      exact⟨by decide,_,Nat.lt_succ_self _,⟨rfl,rfl,rfl,rfl,rfl⟩,fun _=>⟨T,B,⟨true,2,tp,B,gt,en⟩,true,0,f,rfl,Lib.hid B3.out,rfl,HG,he⟩,fun h=>absurd rfl h⟩
  case p3=>
    clear ST CM hs;rintro m a0 w0 ⟨hfr, -,h⟩;obtain⟨u,rfl⟩:=hfr.lit;clear hfr;obtain⟨T,B,t,f,rfl,B1,hs,hc,ho,hl,HG,he⟩:=h (by decide)
    obtain⟨st,a,tp,bt,gt,en⟩:=t;obtain rfl:st=true:=hs;obtain⟨c1,c2,c3,c4,c5⟩:=hc;have hn0:0<n:=by have:=c1.bounds;omega
    have hn64:n<=64:=by have:=c1.bounds;omega
    have hab:=not_over_d ho;have hen:en=0:=Classical.byContradiction fun q=>ho (.inl q)
    have hrng:0<=a/\a<=3:=by
      unfold OverT at ho;simp only[not_or]at ho;have h1:=ho.2.1;have h2:=ho.2.2.1;simp at h1 h2;omega
    simp only at hab hl;clear h ho c1;obtain rfl:a=2:=by
      unfold lblD at hl
      by_cases h0:a=0
      · rw[if_pos h0]at hl;omega
      rw[if_neg h0]at hl
      by_cases h1:a=1
      · rw[if_pos h1]at hl;omega
      rw[if_neg h1]at hl
      by_cases h2:a=2
      · rw[if_pos h2]at hl;omega
      · rw[if_neg h2]at hl;omega
    clear hl hrng;obtain⟨⟨k1,k2⟩,k3,k4⟩:=hab (by decide)
    have hr:moveD R T B ⟨true,2,tp,bt,gt,en⟩=(T,B,⟨true,3,tp,bt,placeD R tp,en⟩):=by
      rfl
    rw[hr]at HG he;clear hr;obtain⟨p,hp⟩: ∃p,p=plN n tp:=⟨_,rfl⟩;have hpn:p<n:=by rw[hp];exact Nat.mod_lt _ hn0
    have CP:=Lib.hid (fun w=>dplace_any A n c T B tp w hn0 hln (by omega))
    rw[<-hp]at CP;obtain⟨bb,off,x,hA0,hbb,hx,hcc⟩:=HQ.out.ints.at_ (k:=p) (by rw[HN.out];exact hpn)
    subst hA0;have hxe:placeD R tp=x:=by rw[placeD_eq,HN.out,<-hp,List.getD_eq_getElem?_getD,hx];rfl
    have HBB:=Lib.hid hbb;have HCC:=Lib.hid hcc;rw[hxe]at HG he;clear hp hbb hx hcc hxe;go_upto_region 9 with fail;refine wp_region_tail 16 [54,55,56,57,58,59,60,61,62,63,64,65,66,67,68,69,70,71,1000,72,73,1001] [1] (by kernel_rfl) (by kernel_rfl) (by intro d hd;simp at hd⊢;omega) (fun y=>Rws wf (rowsR (some ⟨bb,off,none⟩) n c T B ⟨true,2,tp,bt,gt,en⟩ one 0 true) y) (PhiSt wf (some ⟨bb,off,none⟩) n c T B tp p off bb x) (fun _ v=>v= .pointer (some ⟨wf.heap.size+1,0,none⟩)) (ThtSt wf (some ⟨bb,off,none⟩) n c T B true 2 tp bt gt en one x)
      (fun y y' h hb=>h.next hb) (fun k v y y' h hb=>phiSt_still k v y y' h) (B1.out.next (Below.refl _ _).drew) ?hstep ?hloose ?hmid ?htail ?hcon ?hend
    case hstep=>
      intro kq o hkm hkF ho a1 w hI hA hd K hK;obtain⟨ρ,hρ⟩: ∃ρ,a1.eval=ρ:=⟨_,rfl⟩;rw[hρ]at hA hd
      match kq,hkm,hkF,ho with
      | 0, _, _, ho =>
        have hoo:=Option.some.inj ho;subst hoo;exact fx_val hK hρ (.pointer (some ⟨wf.heap.size+1,0,none⟩)) (by have h:=hA.tmp 1 (by decide);simp[execOp,h,go_sem]) rfl
      |1,_,hkF,_=>exact absurd (by decide) hkF
      | 2, _, _, ho =>
        have hoo:=Option.some.inj ho;subst hoo;exact fx_val hK hρ (.pointer (some ⟨wf.heap.size,0,none⟩)) (by have h:=hA.tmp 0 (by decide);simp[execOp,h,go_sem]) rfl
      | 3, _, _, ho =>
        have hoo:=Option.some.inj ho;subst hoo;have f2:ρ (.tmp 56)= .pointer (some ⟨wf.heap.size,0,none⟩):=hd ⟨2, .data⟩ (by simp) (by rfl) (by decide)
        exact fx_val hK hρ (.pointer (some ⟨wf.heap.size,0,none⟩)) (by simp[execOp,f2,go_sem]) rfl
      | 4, _, _, ho =>
        have hoo:=Option.some.inj ho;subst hoo;have f3:ρ (.tmp 57)= .pointer (some ⟨wf.heap.size,0,none⟩):=hd ⟨3, .data⟩ (by simp) (by rfl) (by decide)
        exact fx_val hK hρ (.pointer (some ⟨wf.heap.size,0,none⟩)) (by simp[execOp,f3,go_sem]) rfl
      | 5, _, _, ho =>
        have hoo:=Option.some.inj ho;subst hoo;have f4:ρ (.tmp 58)= .pointer (some ⟨wf.heap.size,0,none⟩):=hd ⟨4, .data⟩ (by simp) (by rfl) (by decide)
        have h0:=hI.cell 0 0 rfl rfl;simp only[Nat.add_zero]at h0;exact fx_val hK hρ (.slice (some ⟨bb,off,none⟩) n c) (by simp[execOp,f4,h0,go_sem]) rfl
      | 6, _, _, ho =>
        have hoo:=Option.some.inj ho;subst hoo;exact fx_val hK hρ (.pointer (some ⟨wf.heap.size,0,none⟩)) (by have h:=hA.tmp 0 (by decide);simp[execOp,h,go_sem]) rfl
      | 7, _, _, ho =>
        have hoo:=Option.some.inj ho;subst hoo;have f6:ρ (.tmp 60)= .pointer (some ⟨wf.heap.size,0,none⟩):=hd ⟨6, .data⟩ (by simp) (by rfl) (by decide)
        exact fx_val hK hρ (.pointer (some ⟨wf.heap.size,0,none⟩)) (by simp[execOp,f6,go_sem]) rfl
      | 8, _, _, ho =>
        have hoo:=Option.some.inj ho;subst hoo;have f7:ρ (.tmp 61)= .pointer (some ⟨wf.heap.size,0,none⟩):=hd ⟨7, .data⟩ (by simp) (by rfl) (by decide)
        have h0:=hI.cell 0 0 rfl rfl;have h1:=hI.cell 0 1 rfl rfl;have h2:=hI.cell 0 2 rfl rfl;simp only[Nat.add_zero]at h0 h1 h2;exact fx_val hK hρ (.agg #[.slice (some ⟨bb,off,none⟩) n c, .int .i64 T, .int .i64 B]) (by simp[execOp,f7,h0,h1,h2,go_sem]) rfl
      | 9, _, _, ho =>
        have hoo:=Option.some.inj ho;subst hoo;exact fx_val hK hρ (.pointer (some ⟨wf.heap.size+1,0,none⟩)) (by have h:=hA.tmp 1 (by decide);simp[execOp,h,go_sem]) rfl
      | 10, _, _, ho =>
        have hoo:=Option.some.inj ho;subst hoo;have f9:ρ (.tmp 63)= .pointer (some ⟨wf.heap.size+1,0,none⟩):=hd ⟨9, .data⟩ (by simp) (by rfl) (by decide)
        exact fx_val hK hρ (.pointer (some ⟨wf.heap.size+1,0,none⟩)) (by simp[execOp,f9,go_sem]) rfl
      | 11, _, _, ho =>
        have hoo:=Option.some.inj ho;subst hoo;have f10:ρ (.tmp 64)= .pointer (some ⟨wf.heap.size+1,0,none⟩):=hd ⟨10, .data⟩ (by simp) (by rfl) (by decide)
        exact fx_val hK hρ (.pointer (some ⟨wf.heap.size+1,2,none⟩)) (by simp[execOp,f10,go_sem]) rfl
      | 12, _, _, ho =>
        have hoo:=Option.some.inj ho;subst hoo;have f11:ρ (.tmp 65)= .pointer (some ⟨wf.heap.size+1,2,none⟩):=hd ⟨11, .data⟩ (by simp) (by rfl) (by decide)
        have h0:=hI.cell 1 2 rfl rfl;exact fx_val hK hρ (.int .i64 tp) (by simp[execOp,f11,h0,go_sem]) rfl
      | 13, _, _, ho =>
        have hoo:=Option.some.inj ho;subst hoo;have f8:ρ (.tmp 62)= .agg #[.slice (some ⟨bb,off,none⟩) n c, .int .i64 T, .int .i64 B]:=hd ⟨8, .data⟩ (by simp) (by rfl) (by decide)
        have f12:ρ (.tmp 66)= .int .i64 tp:=hd ⟨12, .data⟩ (by simp) (by rfl) (by decide)
        exact fx_call hK hρ 131 _ _ #[.agg #[.slice (some ⟨bb,off,none⟩) n c, .int .i64 T, .int .i64 B], .int .i64 tp] rfl (by simp only[List.map_toArray,List.map_cons,List.map_nil,hA.const,f8,f12]) (eg_of Tryz.func131 (by kernel_rfl) rfl) ((CP.out w).mono fun e w' ⟨he,hb⟩=>⟨_,he,rfl,hb⟩)
      | 14, _, _, ho =>
        have hoo:=Option.some.inj ho;subst hoo;have f5:ρ (.tmp 59)= .slice (some ⟨bb,off,none⟩) n c:=hd ⟨5, .data⟩ (by simp) (by rfl) (by decide)
        have f13:ρ (.tmp 67)= .int .i64 p:=hd ⟨13, .data⟩ (by simp) (by rfl) (by decide)
        exact fx_val hK hρ (.pointer (some ⟨bb,off+p,none⟩)) (by simp[execOp,f5,f13,go_sem];omega) rfl
      | 15, _, _, ho =>
        have hoo:=Option.some.inj ho;subst hoo;have f14:ρ (.tmp 68)= .pointer (some ⟨bb,off+p,none⟩):=hd ⟨14, .data⟩ (by simp) (by rfl) (by decide)
        have h0:=(hI.bel.cell (p:=⟨bb,off+p,none⟩) HBB.out).trans HCC.out;exact fx_val hK hρ (.int .i64 x) (by simp[execOp,f14,h0,go_sem]) rfl
      |kq+16,h,_,_=>exact absurd h (by omega)
    case hloose=>
      intro kq o hkF ho ρ w hA hd;simp only[List.mem_cons,List.not_mem_nil,or_false]at hkF;subst hkF;have hoo:=Option.some.inj ho;subst hoo;exact⟨.pointer (some ⟨wf.heap.size+1,0,none⟩),by have h:=hA.tmp 1 (by decide);simp[execOp,h,go_sem],rfl⟩
    case hmid=>
      intro vals w hI hF;exact⟨Nat.le_refl _,by decide,hF 0 (by decide) (by decide),hF 15 (by decide) (by decide),fun h=>absurd h (by decide),fun h=>absurd h (by decide),fun h=>absurd h (by decide),fun h=>absurd h (by decide),fun _=>hI,fun h=>absurd h (by decide),fun h=>absurd h (by decide)⟩
    case htail=>
      intro t o htm ho a1 w hA hT hL K hK;obtain⟨t1,t2,g0,g15,g16,g17,g19,g20,r0,r1,r2⟩:=hT;have htl:t<22:=(Array.getElem?_eq_some_iff.1 ho).1
      obtain⟨ρ,hρ⟩: ∃ρ,a1.eval=ρ:=⟨_,rfl⟩;rw[hρ]at hA hL;simp only[hρ]at g0 g15 g16 g17 g19 g20;obtain rfl|rfl|rfl|rfl|rfl|rfl:t=16\/t=17\/t=18\/t=19\/t=20\/t=21:=by omega
      · have hoo:=Option.some.inj ho;subst hoo;unfold Oper.wp;rw[show(execOp a1.eval _).run Tryz.prog w= .ok (.value (.pointer (some ⟨wf.heap.size+1,0,none⟩))) w from by rw[hρ];simp[execOp,g0,go_sem],Oper.upon_value]
        refine hK _ _ ⟨by decide,by decide,?_⟩
        simp only[Option.some.injEq,Nat.reduceEqDiff,if_false,if_true,hρ];exact⟨g0,g15,fun _=>rfl,fun h=>absurd h (by decide),fun h=>absurd h (by decide),fun h=>absurd h (by decide),fun _=>r0 (by decide),fun h=>absurd h (by decide),fun h=>absurd h (by decide)⟩
      · have hoo:=Option.some.inj ho;subst hoo;unfold Oper.wp;rw[show(execOp a1.eval _).run Tryz.prog w= .ok (.value (.pointer (some ⟨wf.heap.size+1,4,none⟩))) w from by rw[hρ];simp[execOp,g16 (by decide),go_sem],Oper.upon_value]
        refine hK _ _ ⟨by decide,by decide,?_⟩
        simp only[Option.some.injEq,Nat.reduceEqDiff,if_false,if_true,hρ];exact⟨g0,g15,fun _=>g16 (by decide),fun _=>rfl,fun h=>absurd h (by decide),fun h=>absurd h (by decide),fun _=>r0 (by decide),fun h=>absurd h (by decide),fun h=>absurd h (by decide)⟩
      · have hoo:=Option.some.inj ho;subst hoo;have hr:=r0 (by decide)
        have e1:=hr.cell 1 4 rfl rfl;have e2:=hr.frozen 1 4 rfl;unfold Oper.wp;rw[show(execOp a1.eval _).run Tryz.prog w= .ok .skip (w.setCell ⟨wf.heap.size+1,4,none⟩ (.int .i64 x))from by rw[hρ];simp[execOp,g15,g17 (by decide),e1,e2,hA.const,go_sem],Oper.upon_skip]
        refine hK undef _ ⟨by decide,by decide,?_⟩
        simp only[reduceCtorEq,if_false,hρ];exact⟨g0,g15,fun _=>g16 (by decide),fun _=>g17 (by decide),fun h=>absurd h (by decide),fun h=>absurd h (by decide),fun h=>absurd h (by decide),fun _ _=>hr.set 1 4 rfl (.int .i64 x),fun h=>absurd h (by decide)⟩
      · have hoo:=Option.some.inj ho;subst hoo;have hl1:ρ (.tmp 55)= .pointer (some ⟨wf.heap.size+1,0,none⟩):=hL ⟨1, .data⟩ (by simp) (by rfl) (by decide)
        unfold Oper.wp;rw[show(execOp a1.eval _).run Tryz.prog w= .ok (.value (.pointer (some ⟨wf.heap.size+1,0,none⟩))) w from by rw[hρ];simp[execOp,hl1,go_sem],Oper.upon_value]
        refine hK _ _ ⟨by decide,by decide,?_⟩
        simp only[Option.some.injEq,Nat.reduceEqDiff,if_false,if_true,hρ];exact⟨g0,g15,fun _=>g16 (by decide),fun _=>g17 (by decide),fun _=>rfl,fun h=>absurd h (by decide),fun h=>absurd h (by decide),fun _ _=>r1 (by decide) (by decide),fun h=>absurd h (by decide)⟩
      · have hoo:=Option.some.inj ho;subst hoo;unfold Oper.wp;rw[show(execOp a1.eval _).run Tryz.prog w= .ok (.value (.pointer (some ⟨wf.heap.size+1,1,none⟩))) w from by rw[hρ];simp[execOp,g19 (by decide),go_sem],Oper.upon_value]
        refine hK _ _ ⟨by decide,by decide,?_⟩
        simp only[Option.some.injEq,Nat.reduceEqDiff,if_false,if_true,hρ];exact⟨g0,g15,fun _=>g16 (by decide),fun _=>g17 (by decide),fun _=>g19 (by decide),fun _=>rfl,fun h=>absurd h (by decide),fun _ _=>r1 (by decide) (by decide),fun h=>absurd h (by decide)⟩
      · have hoo:=Option.some.inj ho;subst hoo;have hr:=r1 (by decide) (by decide)
        have e1:=hr.cell 1 1 rfl rfl;have e2:=hr.frozen 1 1 rfl;unfold Oper.wp;rw[show(execOp a1.eval _).run Tryz.prog w= .ok .skip (w.setCell ⟨wf.heap.size+1,1,none⟩ (.int .i64 3))from by rw[hρ];simp[execOp,g20 (by decide),e1,e2,hA.const,go_sem],Oper.upon_skip]
        refine hK undef _ ⟨by decide,by decide,?_⟩
        simp only[reduceCtorEq,if_false,hρ];exact⟨g0,g15,fun _=>g16 (by decide),fun _=>g17 (by decide),fun _=>g19 (by decide),fun _=>g20 (by decide),fun h=>absurd h (by decide),fun _ h=>absurd h (by decide),fun _=>hr.set 1 1 rfl (.int .i64 3)⟩
    case hcon=>
      intro t f g w h hT;obtain⟨t1,t2,g0,g15,g16,g17,g19,g20,r0,r1,r2⟩:=hT;exact⟨t1,t2,(h 0 (by omega) (by decide)).symm.trans g0,(h 15 (by omega) (by decide)).symm.trans g15,fun h1=>(h 16 (by omega) (by decide)).symm.trans (g16 h1),fun h1=>(h 17 (by omega) (by decide)).symm.trans (g17 h1),fun h1=>(h 19 (by omega) (by decide)).symm.trans (g19 h1),fun h1=>(h 20 (by omega) (by decide)).symm.trans (g20 h1),r0,r1,r2⟩
    case hend=>
      intro vals w3 hT;obtain⟨_,_,_,_,_,_,_,_,_,_,r2⟩:=hT;have B2:=Lib.hid (r2 rfl);clear r2;simp only[fillA,fillL,List.contains_cons,List.contains_nil,Nat.reduceBEq,Bool.or_false,Bool.false_or,Bool.or_true,Bool.true_or,cond_true,cond_false,Nat.zero_add,Nat.reduceAdd];go_wp2
      go_step3
      try simp only[Exit.inBlock,Exit.then]
      exact⟨by decide,_,Nat.lt_succ_self _,⟨rfl,rfl,rfl,rfl,rfl⟩,fun _=>⟨T,B,⟨true,3,tp,bt,x,en⟩,true,0,f,rfl,Lib.hid B2.out,rfl,HG,he⟩,fun h=>absurd rfl h⟩
  case p4=>
    clear ST CM hs;rintro m a0 w0 ⟨hfr, -,h⟩;obtain⟨u,rfl⟩:=hfr.lit;clear hfr;obtain⟨T,B,t,f,rfl,B1,hs,hc,ho,hl,HG,he⟩:=h (by decide)
    obtain⟨st,a,tp,bt,gt,en⟩:=t;obtain rfl:st=true:=hs;obtain⟨c1,c2,c3,c4,c5⟩:=hc;have hn0:0<n:=by have:=c1.bounds;omega
    have hn64:n<=64:=by have:=c1.bounds;omega
    have hab:=not_over_d ho;have hen:en=0:=Classical.byContradiction fun q=>ho (.inl q)
    have hrng:0<=a/\a<=3:=by
      unfold OverT at ho;simp only[not_or]at ho;have h1:=ho.2.1;have h2:=ho.2.2.1;simp at h1 h2;omega
    simp only at hab hl;clear h ho c1;have ha:a≠0/\a≠1/\a≠2:=by
      unfold lblD at hl
      by_cases h0:a=0
      · rw[if_pos h0]at hl;omega
      rw[if_neg h0]at hl
      by_cases h1:a=1
      · rw[if_pos h1]at hl;omega
      rw[if_neg h1]at hl
      by_cases h2:a=2
      · rw[if_pos h2]at hl;omega
      · exact⟨h0,h1,h2⟩
    clear hl;obtain⟨⟨k1,k2⟩,k3,k4⟩:=hab ha.1;obtain rfl:a=3:=by omega
    clear ha hrng;have c00:=B1.out.cell 0 0 rfl rfl;have zc00:=B1.out.frozen 0 0 rfl;have c01:=B1.out.cell 0 1 rfl rfl;have zc01:=B1.out.frozen 0 1 rfl;have c02:=B1.out.cell 0 2 rfl rfl;have zc02:=B1.out.frozen 0 2 rfl;have c10:=B1.out.cell 1 0 rfl rfl;have zc10:=B1.out.frozen 1 0 rfl;have c11:=B1.out.cell 1 1 rfl rfl;have zc11:=B1.out.frozen 1 1 rfl;have c12:=B1.out.cell 1 2 rfl rfl;have zc12:=B1.out.frozen 1 2 rfl;have c13:=B1.out.cell 1 3 rfl rfl;have zc13:=B1.out.frozen 1 3 rfl;have c14:=B1.out.cell 1 4 rfl rfl;have zc14:=B1.out.frozen 1 4 rfl;have c15:=B1.out.cell 1 5 rfl rfl;have zc15:=B1.out.frozen 1 5 rfl;simp only[Nat.add_zero]at c00 c01 c02 zc00 zc01 zc02
    by_cases hb:T=tp
    · have hd:(T==tp)=true:=by rw[beq_iff_eq];exact hb
      have hr:moveD R T B ⟨true,3,tp,bt,gt,en⟩=(T+1,B,⟨true,3,tp,bt,gt,1⟩):=by
        unfold moveD;rw[if_pos rfl];unfold thiefD;rw[if_neg (by show¬(3:Int)=0;decide),if_neg (by show¬(3:Int)=1;decide),if_neg (by show¬(3:Int)=2;decide),if_pos hb]
      rw[hr]at HG he;clear hr;clear hb;have B3:=Lib.hid (((B1.out.set 0 1 rfl (.int .i64 (T+1))).set 1 5 rfl (.int .i64 1)).drew 1);go_wp2
      go_region
      go_wp2
      go_step3
      try simp only[Exit.inBlock,Exit.then]
      exact⟨by decide,_,Nat.lt_succ_self _,⟨rfl,rfl,rfl,rfl,rfl⟩,fun _=>⟨(T+1),B,⟨true,3,tp,bt,gt,1⟩,true,0,f,rfl,Lib.hid B3.out,rfl,HG,he⟩,fun h=>absurd rfl h⟩
    · have hd:(T==tp)=false:=beq_eq_false_iff_ne.mpr hb;have hr:moveD R T B ⟨true,3,tp,bt,gt,en⟩=(T,B,⟨true,3,tp,bt,0,3⟩):=by
        unfold moveD;rw[if_pos rfl];unfold thiefD;rw[if_neg (by show¬(3:Int)=0;decide),if_neg (by show¬(3:Int)=1;decide),if_neg (by show¬(3:Int)=2;decide),if_neg hb]
      rw[hr]at HG he;clear hr;clear hb;have B3:=Lib.hid (((B1.out.set 1 4 rfl (.int .i64 0)).set 1 5 rfl (.int .i64 3)).drew 1);go_wp2
      go_region
      go_wp2
      go_step3
      try simp only[Exit.inBlock,Exit.then]
      exact⟨by decide,_,Nat.lt_succ_self _,⟨rfl,rfl,rfl,rfl,rfl⟩,fun _=>⟨T,B,⟨true,3,tp,bt,0,3⟩,true,0,f,rfl,Lib.hid B3.out,rfl,HG,he⟩,fun h=>absurd rfl h⟩
end
end Go.Proofs.YtngdbbligebcbabGreatDoor
