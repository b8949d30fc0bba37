import Derived.Test.YtngdbbligebcbabGreatDoorZM28
import Derived.Lib.Hide
import Derived.Shelf.Abstract
set_option linter.unusedVariables false
set_option linter.unusedSimpArgs false
set_option maxRecDepth 100000
set_option maxHeartbeats 16000000
namespace Go.Proofs.YtngdbbligebcbabGreatDoor
open Go Go.RowKit
theorem updG_same{α:Type}(f:Nat->α)(i:Nat):updG f i (f i)=f:=by
 funext j
 by_cases e:j=i
 ·rw[e,updG_at]
 ·rw[updG_ne _ _ e]
def dqG(m:Nat)(g:Gng)(c:Nat):Gng:={g with R:=updG g.R (tgtG m g c) (g.R (tgtG m g c)),T:=updG g.T (tgtG m g c) (resG m g c).1,B:=updG g.B (tgtG m g c) (resG m g c).2.1}
theorem dqG_go{m:Nat}{g:Gng}{c:Nat}(h:(resG m g c).2.2.end_=0):{dqG m g c with tk:=updG g.tk c (resG m g c).2.2}=stepG m g c:=by
 unfold dqG stepG ntG nfG;rw[if_pos h,if_pos h,if_neg (by rw[h];decide),updG_same,updG_same]
theorem dqG_turn{m:Nat}{g:Gng}{c:Nat}(h0:(resG m g c).2.2.end_≠0)(h1:(resG m g c).2.2.end_≠1):turnG (dqG m g c) c ((g.fr c+1)%m)=stepG m g c:=by
 have e:nfG m g c=(g.fr c+1)%m:=by unfold nfG;rw[if_neg h0,if_neg h1]
 have e2:ntG m g c=newTk (decide ((((g.fr c+1)%m:Nat):Int)≠0)):=by
  unfold ntG;rw[if_neg h0,e];congr 1;exact decide_eq_decide.mpr ⟨fun q=>by omega,fun q=>by omega⟩
 unfold turnG dqG stepG;rw[if_neg h1,updG_same,e,e2]
theorem dqG_run{m:Nat}{g:Gng}{c x:Nat}(h1:(resG m g c).2.2.end_=1)(hx:(resG m g c).2.2.got=x):runGg (dqG m g c) c x=stepG m g c:=by
 have e:nfG m g c=0:=by unfold nfG;rw[if_neg (by rw[h1];decide),if_pos h1]
 have e2:ntG m g c=newTk false:=by unfold ntG;rw[if_neg (by rw[h1];decide),e];rfl
 unfold runGg turnG dqG stepG;rw[if_pos h1,updG_same,e,e2,hx];rfl
theorem GOk.stepZ{n m:Nat}{E:List (Int×Int)}{L:List Int}{g:Gng}{c:Nat}(h:GOk n m E L g)(hc:c<m):
  stepQ (g.R (tgtG m g c)) (g.T (tgtG m g c)) (g.B (tgtG m g c)) (g.tk c)=(0,moveD (g.R (tgtG m g c)) (g.T (tgtG m g c)) (g.B (tgtG m g c)) (g.tk c)):=by
 have S:=h.stepOk hc;have hj:=h.tgt c;have b1:=(h.dq _ hj).bounds;have b2:=S.dq.bounds;have hl:=h.rl _ hj;have hres:resG m g c=moveD (g.R (tgtG m g c)) (g.T (tgtG m g c)) (g.B (tgtG m g c)) (g.tk c):=rfl;rw[hres]at b2;have c1:ChkQ (g.R (tgtG m g c)).length (g.T (tgtG m g c)) (g.B (tgtG m g c)):=by rw[hl];exact⟨by decide,b1.1,by omega,by omega,by omega⟩
 have c2:ChkQ (g.R (tgtG m g c)).length (moveD (g.R (tgtG m g c)) (g.T (tgtG m g c)) (g.B (tgtG m g c)) (g.tk c)).1 (moveD (g.R (tgtG m g c)) (g.T (tgtG m g c)) (g.B (tgtG m g c)) (g.tk c)).2.1:=by rw[hl];exact⟨by decide,b2.1,by omega,by omega,by omega⟩
 have ho: ¬OverT (g.tk c):=by
  by_cases hf:g.fr c=0
  ·obtain ⟨e1,e2⟩:=h.own hc hf
   have hd:=h.dq _ hj;rw[e1,e2]at hd;rw[e1]at b1;obtain⟨q1,q2,q3,q4⟩:=hd.own;unfold OverT WildT;rw[q1];rintro(h1|h1|h1|⟨h1,h2⟩)
   ·exact h1 q2
   ·omega
   ·rw[if_neg (by decide)]at h1;omega
   ·have:=(q4.resolve_left (by omega)).1
    omega
  ·obtain ⟨t1,t2,t3,t4,tb,t5,t6⟩:=h.th c hc hf
   unfold OverT WildT;rw[t1];rintro(h1|h1|h1|⟨h1,h2⟩)
   ·exact h1 t2
   ·omega
   ·rw[if_pos rfl]at h1;omega
   ·have:=t4 (by omega)
    omega
 unfold stepQ;rw[if_neg (show¬ ¬ChkQ (g.R (tgtG m g c)).length (g.T (tgtG m g c)) (g.B (tgtG m g c))from fun q=>q c1),if_neg ho,if_neg (show¬ ¬ChkQ (g.R (tgtG m g c)).length (moveD (g.R (tgtG m g c)) (g.T (tgtG m g c)) (g.B (tgtG m g c)) (g.tk c)).1 (moveD (g.R (tgtG m g c)) (g.T (tgtG m g c)) (g.B (tgtG m g c)) (g.tk c)).2.1 from fun q=>q c2)]
def PhiWs(b base gw m c f j:Nat)(ad:GAd)(g1:Gng)(L:List Int)(vW vE:Value)(t0 t1:Tkr):Nat->Value->World->Prop
 |0,v,w=>v= .pointer (some ⟨gw,0,none⟩)
 |1,v,w=>v= .int .i64 c
 |2,v,w=>v= .int .i64 f
 |3,v,w=>v= .int .i64 ((c+f:Nat):Int)
 |4,v,w=>v= .int .i64 m
 |5,v,w=>v= .int .i64 j
 |6,v,w=>v= .agg #[.pointer (some ⟨ad.gD,3 * j,none⟩)]
 |7,v,w=>v= .pointer (some ⟨gw,0,none⟩)
 |8,v,w=>v= .pointer (some ⟨gw,0,none⟩)
 |9,v,w=>v= .pointer (some ⟨gw,0,none⟩)
 |10,v,w=>v= .pointer (some ⟨gw,3,none⟩)
 |11,v,w=>v= .slice (some ⟨ad.gT,0,none⟩) m ad.cT
 |12,v,w=>v= .int .i64 c
 |13,v,w=>v= .pointer (some ⟨ad.gT,6 * c,none⟩)
 |14,v,w=>v=vT t0
 |15,v,w=>v= .tuple #[vT t1,.int .i64 0]/\ ∃rv,IsWk w base gw m g1 L {ad with Rv:=updG ad.Rv j rv} vW vE
 |16,v,w=>v= .tuple #[vT t1,.int .i64 0]
 |17,v,w=>v=vT t1
 |18,v,w=>True
 |19,v,w=> ∃x,v= .pointer (some ⟨x,0,none⟩)/\RowV x 65 (cT (newTk false)) w/\b<=x
 |_,_,_=>True
theorem phiWs_below{b base gw m c f j:Nat}{ad:GAd}{g1:Gng}{L:List Int}{vW vE:Value}{t0 t1:Tkr}: ∀kq v w w',PhiWs b base gw m c f j ad g1 L vW vE t0 t1 kq v w->Below w.heap.size w w'->PhiWs b base gw m c f j ad g1 L vW vE t0 t1 kq v w':=by
 intro kq v w w' h hb
 match kq,h with
 |0,h=>exact h
 |1,h=>exact h
 |2,h=>exact h
 |3,h=>exact h
 |4,h=>exact h
 |5,h=>exact h
 |6,h=>exact h
 |7,h=>exact h
 |8,h=>exact h
 |9,h=>exact h
 |10,h=>exact h
 |11,h=>exact h
 |12,h=>exact h
 |13,h=>exact h
 |14,h=>exact h
 |15,h=>exact(by obtain⟨e,rv,hw⟩:=h;exact⟨e,rv,hw.below hb⟩)
 |16,h=>exact h
 |17,h=>exact h
 |18,h=>exact h
 |19,h=>exact(by obtain⟨x,e,hr,hx⟩:=h;exact⟨x,e,hr.below hb hr.lt,hx⟩)
 |kq+20,h=>exact trivial
theorem phiWs_kp{b base gw m c f j:Nat}{ad:GAd}{g1:Gng}{L:List Int}{vW vE:Value}{t0 t1:Tkr}(hbd:ad.gD<b): ∀kq v w w',kq≠15->PhiWs b base gw m c f j ad g1 L vW vE t0 t1 kq v w->Kp [ad.gD] w w'->PhiWs b base gw m c f j ad g1 L vW vE t0 t1 kq v w':=by
 intro kq v w w' hk h hb
 match kq,hk,h with
 |0,hk,h=>exact h
 |1,hk,h=>exact h
 |2,hk,h=>exact h
 |3,hk,h=>exact h
 |4,hk,h=>exact h
 |5,hk,h=>exact h
 |6,hk,h=>exact h
 |7,hk,h=>exact h
 |8,hk,h=>exact h
 |9,hk,h=>exact h
 |10,hk,h=>exact h
 |11,hk,h=>exact h
 |12,hk,h=>exact h
 |13,hk,h=>exact h
 |14,hk,h=>exact h
 |15,hk,h=>exact absurd rfl hk
 |16,hk,h=>exact h
 |17,hk,h=>exact h
 |18,hk,h=>exact h
 |19,hk,h=>exact(by obtain⟨x,e,hr,hx⟩:=h;exact⟨x,e,hb.row hr (by simp;omega),hx⟩)
 |kq+20,_,h=>exact trivial
def ThtWs(wr:World)(base gw m j:Nat)(ad:GAd)(g1:Gng)(L:List Int)(vW vE:Value)(t1:Tkr)(t:Nat)(f:Nat->Value)(w:World):Prop:=
 20<=t/\t<=22/\Kp [ad.gD] wr w/\ ∃rv x8,IsWk w base gw m g1 L {ad with Rv:=updG ad.Rv j rv} vW vE/\f 41=vT t1/\f 7= .pointer (some ⟨x8,0,none⟩)/\wr.heap.size<=x8/\
  (t=20->RowV x8 65 (cT (newTk false)) w)/\(21<=t->RowV x8 65 (cT t1) w)/\(t=22->f 8= .int .i64 0)
theorem IsWk.gT_gD{w:World}{base gw m:Nat}{g:Gng}{L:List Int}{a:GAd}{vW vE:Value}(h:IsWk w base gw m g L a vW vE):a.gT≠a.gD:=by
 obtain⟨cur,hb,_⟩:=rowN_block h.gng.dqs;exact fun e=>rowN_types h.gng.tks hb (by decide) (by show some a.gT=_;rw[e])
theorem IsWk.tk_kp{w:World}{base gw m:Nat}{g:Gng}{L:List Int}{a:GAd}{vW vE:Value}(h:IsWk w base gw m g L a vW vE): ∀b,(a.vT m).ownBlock=some b->b∉ [a.gD]:=fun b hb hm=>by
 have e:a.gT=b:=Option.some.inj hb;rw[List.mem_singleton]at hm;exact h.gT_gD (e.trans hm)
theorem fx_callR{P:Program}{Q:Exit->Act->World->Prop}{o:Oper}{a:Act}{w:World}{k:Nat}{Φ:Nat->Value->World->Prop}{K:Act->World->Prop}{Rr:World->World->Prop}(hK: ∀v w',Φ k v w'->Rr w w'->K (a.put o.dst v) w'){ρ:Operand->Value}(hρ:a.eval=ρ)(f:FuncId)(xs:Array Operand)(tys:Array TypeId)(vs:Array Value)
  (ho:o.op= .call {callee:=.value (.func f),args:=xs,argTypes:=tys}) (hxs:xs.map ρ=vs) (eg: ∀args w,(callFunc f args).run P w= .ok (.enter f args) w)
  (h:Calls P f vs w fun e w'=> ∃v,e= .returned v/\Φ k v w'/\Rr w w'):o.wp P a w K Q:=by
 subst hρ;have hr:(execOp a.eval o).run P w= .ok (.enter f vs) w:=by
  have:=eg vs w;simp[execOp,ho,resolve,hxs,invoke,Deferred.ofValue,Act.eval,this,go_sem]
 unfold Oper.wp;rw[hr,Oper.upon_enter];refine h.mono fun e w' ⟨v,he,hv,hb⟩=> ?_
 subst he;exact hK v w' hv hb
theorem IsWk.far6{w:World}{base gw m:Nat}{g:Gng}{L:List Int}{a:GAd}{vW vE:Value}(h:IsWk w base gw m g L a vW vE){b:Nat}{vs:List Value}(hb:RowV b 65 vs w)(hT:b≠a.gT)(x0 x1 x2 x3 x4 x5:Value):
  IsWk ((((((w.setCell ⟨b,0,none⟩ x0).setCell ⟨b,1,none⟩ x1).setCell ⟨b,2,none⟩ x2).setCell ⟨b,3,none⟩ x3).setCell ⟨b,4,none⟩ x4).setCell ⟨b,5,none⟩ x5) base gw m g L a vW vE:=by
 have hnr:gw≠b:=fun e=>rowV_types (e▸h.row) hb (by decide)
 exact⟨(((((h.row.far hnr).far hnr).far hnr).far hnr).far hnr).far hnr,h.hw,h.gng.below6 hb hT x0 x1 x2 x3 x4 x5⟩
def PhiW6(gw m c:Nat)(ad:GAd)(t1:Tkr):Nat->Value->World->Prop
 |0,v,w=>v= .pointer (some ⟨gw,0,none⟩)
 |1,v,w=>v= .pointer (some ⟨gw,0,none⟩)
 |2,v,w=>v= .pointer (some ⟨gw,0,none⟩)
 |3,v,w=>v= .pointer (some ⟨gw,3,none⟩)
 |4,v,w=>v= .slice (some ⟨ad.gT,0,none⟩) m ad.cT
 |5,v,w=>v= .int .i64 c
 |6,v,w=>v=vT t1
 |7,v,w=>v= .pointer (some ⟨ad.gT,6 * c,none⟩)
 |_,_,_=>True
theorem phiW6_below{gw m c:Nat}{ad:GAd}{t1:Tkr}: ∀kq v w w',PhiW6 gw m c ad t1 kq v w->Below w.heap.size w w'->PhiW6 gw m c ad t1 kq v w':=by
 intro kq v w w' h hb
 match kq,h with
 |0,h=>exact h
 |1,h=>exact h
 |2,h=>exact h
 |3,h=>exact h
 |4,h=>exact h
 |5,h=>exact h
 |6,h=>exact h
 |7,h=>exact h
 |kq+8,h=>exact trivial
def ThtW6(wr:World)(base gw m c:Nat)(g1:Gng)(L:List Int)(ad a3:GAd)(vW vE:Value)(t1:Tkr)(t:Nat)(f:Nat->Value)(w:World):Prop:=
 8<=t/\t<=9/\Kp [ad.gT] wr w/\(t=8->IsWk w base gw m g1 L a3 vW vE/\f 54=vT t1/\f 55= .pointer (some ⟨ad.gT,6 * c,none⟩))/\(t=9->IsWk w base gw m {g1 with tk:=updG g1.tk c t1} L a3 vW vE)
section
variable {base gw m n: Nat} {g: Gng} {L: List Int} {ad: GAd} {W: List Int} {E: List (Int × Int)} {WA: Option Addr} {Wn Wc: Nat} {EF: Option Addr} {Em Ed: Nat}
theorem step_any{c:Nat}(w:World)(hc:c<m)(hi:g.O.getD c 0= -1)(hok:GOk W.length m E L g)(hM:May W E)(hT:DTab w)(hg:IsGrS w base WA Wn Wc EF Em Ed W E)
    (h:IsWk w base gw m g L ad (.slice WA Wn Wc) (.slice EF Em Ed)):
    Calls Tryz.prog 50 #[.pointer (some ⟨gw,0,none⟩), .int .i64 c] w fun e w'=>e= .returned (.int .i64 0)/\ ∃Rv',IsWk w' base gw m (stepG m g c) L {ad with Rv:=Rv'} (.slice WA Wn Wc) (.slice EF Em Ed)/\Kp [ad.gO,ad.gD,ad.gF,ad.gT] w w':=by
  have hm8:m<=8:=by rw[<-hok.ol];exact hok.crew.hi
  obtain⟨vW,hvW⟩: ∃v,v=Value.slice WA Wn Wc:=⟨_,rfl⟩;obtain⟨vE,hvE⟩: ∃v,v=Value.slice EF Em Ed:=⟨_,rfl⟩;rw[<-hvW,<-hvE]at h⊢;obtain⟨f,hf⟩: ∃f,f=g.fr c:=⟨_,rfl⟩;obtain⟨j,hj⟩: ∃j,j=tgtG m g c:=⟨_,rfl⟩;have hjm:j<m:=by rw[hj];exact hok.tgt c
  have hf8:f<8:=by rw[hf];have:=hok.fr c hc;omega
  have hje:((c:Int)+(f:Int)).tmod (m:Int)=(j:Int):=by
    rw[hj,hf]
    exact_mod_cast (rfl:((c+g.fr c:Nat):Int).tmod (m:Int)=(((c+g.fr c)%m:Nat):Int))
  have HJE:=Lib.hid hje;have HVW:=Lib.hid hvW;have HVE:=Lib.hid hvE;have HF:=Lib.hid hf.symm;have HJ:=Lib.hid hj;have HOK:=Lib.hid hok;have HC:=Lib.hid hc;have HI:=Lib.hid hi;have HG:=Lib.hid hg;have HT:=Lib.hid hT;have H:=Lib.hid h;have HM:=Lib.hid hM;have hends:=(hok.ends hc).1;have HST:=Lib.hid (hok.step hc hi);obtain⟨u,hu⟩: ∃u,u=resG m g c:=⟨_,rfl⟩;have HU:=Lib.hid hu;have HSQ:=Lib.hid (hok.stepZ hc);have he4:u.2.2.end_=0\/u.2.2.end_=1\/u.2.2.end_=2\/u.2.2.end_=3:=by
    rw[hu];cases hends<;>simp_all
  have HE4:=Lib.hid he4;clear hvW hvE hf hj hok hi hg hT h hM hends hu he4 hje;go_enter Tryz.func50,Tryz.ntmps50;go_upto_region 1 with fail;have c0:w.cell? ⟨gw,0,none⟩=some (.slice (some ⟨ad.gO,0,none⟩) m ad.cO):=H.out.row.cell rfl
  have c4:w.cell? ⟨gw,4,none⟩=some (.slice (some ⟨ad.gF,0,none⟩) m ad.cF):=H.out.row.cell rfl
  have y0:=H.out.gng.fr hc;rw[HF.out]at y0;have hn: ¬((m:Int)<=(c:Int)):=by omega
  go_quiet (fail)
  obtain⟨w1,hw1⟩: ∃w1,w1=w.drewN nq:=⟨_,rfl⟩;have HB1:Hid (Below w.heap.size w w1):=Lib.hid (by rw[hw1];exact below_drewN (Below.refl _ _) _)
  have W1:=Lib.hid (H.out.below HB1.out);rw[<-hw1];clear hw1 c0 c4 y0;go_upto_region 2 with fail;refine wp_region_tailJ 20 15 [25,26,27,28,29,30,31,32,33,34,35,36,37,38,39,40,24,41,42,7,1000,8] [18] (by kernel_rfl) (by kernel_rfl) (by intro d hd;simp at hd⊢;omega) ⟨by decide,by decide⟩ (fun z=>RowV gw 73 (gangC m ad++ [vW,vE]) z/\z.ownsRow base 65 6 (ad.vT m) m (flatN (fun c=>cT (g.tk c)) m)/\Kp [ad.gD] w1 z) (fun z=>IsWk z base gw m g L ad vW vE/\DTab z) (fun z z'=>Kp [ad.gD] z z') (PhiWs w1.heap.size base gw m c f j ad (dqG m g c) L vW vE (g.tk c) u.2.2) (fun _ v=>v= .int .i64 0) (ThtWs w1 base gw m j ad (dqG m g c) L vW vE u.2.2)
    (fun z z' hb=>Kp.of_below hb _) (fun z z' h hb=>⟨hb.row h.1 (by simpa using W1.out.gD_ne),hb.own h.2.1 W1.out.tk_kp,h.2.2.trans hb⟩) (fun z z' h hb=>⟨h.1.below hb,h.2.via hb⟩) (phiWs_kp (by have:=W1.out.gng.lts;omega)) (phiWs_below 15)
    (⟨W1.out.row.drewN 1,W1.out.gng.tks,Kp.of_below (Below.refl _ _).drew _⟩) (⟨W1.out.below (Below.refl _ _).drew,HT.out.via (HB1.out.trans ((Below.refl _ _).drew))⟩) ?hstep ?hloose ?hmid ?htail ?hcon ?hend
  case hstep=>
    intro kq o hkm hkF ho a1 w hI hA hd hJq K hK;obtain⟨ρ,hρ⟩: ∃ρ,a1.eval=ρ:=⟨_,rfl⟩;rw[hρ]at hA hd
    match kq,hkm,hkF,ho with
    | 0, _, _, ho =>
      have hoo:=Option.some.inj ho;subst hoo;have hK:=fun v w' h b=>hK v w' h (by rw[if_neg (by decide)];exact b)
      exact fx_val hK hρ (.pointer (some ⟨gw,0,none⟩)) (by have h:=hA.tmp 0 (by decide);simp[execOp,h,go_sem]) rfl
    | 1, _, _, ho =>
      have hoo:=Option.some.inj ho;subst hoo;have hK:=fun v w' h b=>hK v w' h (by rw[if_neg (by decide)];exact b)
      exact fx_val hK hρ (.int .i64 c) (by have h:=hA.tmp 1 (by decide);simp[execOp,h,go_sem]) rfl
    | 2, _, _, ho =>
      have hoo:=Option.some.inj ho;subst hoo;have hK:=fun v w' h b=>hK v w' h (by rw[if_neg (by decide)];exact b)
      exact fx_val hK hρ (.int .i64 f) (by have h:=hA.tmp 6 (by decide);simp[execOp,h,go_sem]) rfl
    | 3, _, _, ho =>
      have hoo:=Option.some.inj ho;subst hoo;have hK:=fun v w' h b=>hK v w' h (by rw[if_neg (by decide)];exact b)
      have f1:ρ (.tmp 26)= .int .i64 c:=hd ⟨1, .data⟩ (by simp) (by rfl) (by decide)
      have f2:ρ (.tmp 27)= .int .i64 f:=hd ⟨2, .data⟩ (by simp) (by rfl) (by decide)
      have hwr:IntKind.i64.wrap ((c:Int)+(f:Int))=(c:Int)+(f:Int):=by rw[IntKind.wrap_i64];omega
      exact fx_val hK hρ (.int .i64 ((c+f:Nat):Int)) (by simp[execOp,f1,f2,hwr,go_sem]) rfl
    | 4, _, _, ho =>
      have hoo:=Option.some.inj ho;subst hoo;have hK:=fun v w' h b=>hK v w' h (by rw[if_neg (by decide)];exact b)
      exact fx_val hK hρ (.int .i64 m) (by have h:=hA.tmp 5 (by decide);simp[execOp,h,go_sem]) rfl
    | 5, _, _, ho =>
      have hoo:=Option.some.inj ho;subst hoo;have hK:=fun v w' h b=>hK v w' h (by rw[if_neg (by decide)];exact b)
      have f3:ρ (.tmp 28)= .int .i64 ((c+f:Nat):Int):=hd ⟨3, .data⟩ (by simp) (by rfl) (by decide)
      have f4:ρ (.tmp 29)= .int .i64 m:=hd ⟨4, .data⟩ (by simp) (by rfl) (by decide)
      have hm0: ¬m=0:=by omega
      exact fx_val hK hρ (.int .i64 j) (by simp[execOp,f3,f4,hm0,go_sem];exact HJE.out) rfl
    | 6, _, _, ho =>
      have hoo:=Option.some.inj ho;subst hoo;have hK:=fun v w' h b=>hK v w' h (by rw[if_neg (by decide)];exact b)
      have f0:ρ (.tmp 25)= .pointer (some ⟨gw,0,none⟩):=hd ⟨0, .data⟩ (by simp) (by rfl) (by decide)
      have f5:ρ (.tmp 30)= .int .i64 j:=hd ⟨5, .data⟩ (by simp) (by rfl) (by decide)
      exact fx_call hK hρ 70 _ _ #[.pointer (some ⟨gw,0,none⟩), .int .i64 j] rfl (by simp only[List.map_toArray,List.map_cons,List.map_nil,hA.const,f0,f5]) (eg_of Tryz.func70 (by kernel_rfl) rfl) ((storeOf_row hjm hI.1).mono fun e w' ⟨he,hb⟩=>⟨_,he,rfl,hb⟩)
    | 7, _, _, ho =>
      have hoo:=Option.some.inj ho;subst hoo;have hK:=fun v w' h b=>hK v w' h (by rw[if_neg (by decide)];exact b)
      exact fx_val hK hρ (.pointer (some ⟨gw,0,none⟩)) (by have h:=hA.tmp 0 (by decide);simp[execOp,h,go_sem]) rfl
    | 8, _, _, ho =>
      have hoo:=Option.some.inj ho;subst hoo;have hK:=fun v w' h b=>hK v w' h (by rw[if_neg (by decide)];exact b)
      have f7:ρ (.tmp 32)= .pointer (some ⟨gw,0,none⟩):=hd ⟨7, .data⟩ (by simp) (by rfl) (by decide)
      exact fx_val hK hρ (.pointer (some ⟨gw,0,none⟩)) (by simp[execOp,f7,go_sem]) rfl
    | 9, _, _, ho =>
      have hoo:=Option.some.inj ho;subst hoo;have hK:=fun v w' h b=>hK v w' h (by rw[if_neg (by decide)];exact b)
      have f8:ρ (.tmp 33)= .pointer (some ⟨gw,0,none⟩):=hd ⟨8, .data⟩ (by simp) (by rfl) (by decide)
      exact fx_val hK hρ (.pointer (some ⟨gw,0,none⟩)) (by simp[execOp,f8,go_sem]) rfl
    | 10, _, _, ho =>
      have hoo:=Option.some.inj ho;subst hoo;have hK:=fun v w' h b=>hK v w' h (by rw[if_neg (by decide)];exact b)
      have f9:ρ (.tmp 34)= .pointer (some ⟨gw,0,none⟩):=hd ⟨9, .data⟩ (by simp) (by rfl) (by decide)
      exact fx_val hK hρ (.pointer (some ⟨gw,3,none⟩)) (by simp[execOp,f9,go_sem]) rfl
    | 11, _, _, ho =>
      have hoo:=Option.some.inj ho;subst hoo;have hK:=fun v w' h b=>hK v w' h (by rw[if_neg (by decide)];exact b)
      have f10:ρ (.tmp 35)= .pointer (some ⟨gw,3,none⟩):=hd ⟨10, .data⟩ (by simp) (by rfl) (by decide)
      have h0:w.cell? ⟨gw,3,none⟩=some (.slice (some ⟨ad.gT,0,none⟩) m ad.cT):=hI.1.cell rfl
      exact fx_val hK hρ (.slice (some ⟨ad.gT,0,none⟩) m ad.cT) (by simp[execOp,f10,h0,go_sem]) rfl
    | 12, _, _, ho =>
      have hoo:=Option.some.inj ho;subst hoo;have hK:=fun v w' h b=>hK v w' h (by rw[if_neg (by decide)];exact b)
      exact fx_val hK hρ (.int .i64 c) (by have h:=hA.tmp 1 (by decide);simp[execOp,h,go_sem]) rfl
    | 13, _, _, ho =>
      have hoo:=Option.some.inj ho;subst hoo;have hK:=fun v w' h b=>hK v w' h (by rw[if_neg (by decide)];exact b)
      have f11:ρ (.tmp 36)= .slice (some ⟨ad.gT,0,none⟩) m ad.cT:=hd ⟨11, .data⟩ (by simp) (by rfl) (by decide)
      have f12:ρ (.tmp 37)= .int .i64 c:=hd ⟨12, .data⟩ (by simp) (by rfl) (by decide)
      have hcm:=HC.out;have hn: ¬((m:Int)<=(c:Int)):=by omega
      have e6:c * 6=6 * c:=Nat.mul_comm _ _;exact fx_val hK hρ (.pointer (some ⟨ad.gT,6 * c,none⟩)) (by simp[execOp,f11,f12,hcm,hn,e6,go_sem]) rfl
    | 14, _, _, ho =>
      have hoo:=Option.some.inj ho;subst hoo;have hK:=fun v w' h b=>hK v w' h (by rw[if_neg (by decide)];exact b)
      have f13:ρ (.tmp 38)= .pointer (some ⟨ad.gT,6 * c,none⟩):=hd ⟨13, .data⟩ (by simp) (by rfl) (by decide)
      have h0:=rowN_cell hI.2.1 (k:=6 * c+0) (v:=(cT (g.tk c)).getD 0 undef) (by rw[flatN_at (tkC_len g) (by decide) HC.out];rfl)
      have h1:=rowN_cell hI.2.1 (k:=6 * c+1) (v:=(cT (g.tk c)).getD 1 undef) (by rw[flatN_at (tkC_len g) (by decide) HC.out];rfl)
      have h2:=rowN_cell hI.2.1 (k:=6 * c+2) (v:=(cT (g.tk c)).getD 2 undef) (by rw[flatN_at (tkC_len g) (by decide) HC.out];rfl)
      have h3:=rowN_cell hI.2.1 (k:=6 * c+3) (v:=(cT (g.tk c)).getD 3 undef) (by rw[flatN_at (tkC_len g) (by decide) HC.out];rfl)
      have h4:=rowN_cell hI.2.1 (k:=6 * c+4) (v:=(cT (g.tk c)).getD 4 undef) (by rw[flatN_at (tkC_len g) (by decide) HC.out];rfl)
      have h5:=rowN_cell hI.2.1 (k:=6 * c+5) (v:=(cT (g.tk c)).getD 5 undef) (by rw[flatN_at (tkC_len g) (by decide) HC.out];rfl)
      simp only[Nat.add_zero]at h0;exact fx_val hK hρ (vT (g.tk c)) (by simp[execOp,f13,h0,h1,h2,h3,h4,h5,vT,cT,go_sem]) rfl
    | 15, _, _, ho =>
      have hoo:=Option.some.inj ho;subst hoo;have f6:ρ (.tmp 31)= .agg #[.pointer (some ⟨ad.gD,3 * j,none⟩)]:=hd ⟨6, .data⟩ (by simp) (by rfl) (by decide)
      have f14:ρ (.tmp 39)=vT (g.tk c):=hd ⟨14, .data⟩ (by simp) (by rfl) (by decide)
      have hj1:=hJq rfl;exact fx_callR hK hρ 91 _ _ #[.agg #[.pointer (some ⟨ad.gD,3 * j,none⟩)],vT (g.tk c)] rfl (by simp only[List.map_toArray,List.map_cons,List.map_nil,hA.const,f6,f14]) (eg_of Tryz.func91 (by kernel_rfl) rfl) (by
        have hs:=HSQ.out;rw[<-HJ.out]at hs;refine(sstep_any (g.tk c) w hjm hm8 hj1.2 hj1.1 (HOK.out.rl j hjm) hs).mono ?_
        rintro e w' ⟨he,rv,hw,hk⟩;have hre:moveD (g.R j) (g.T j) (g.B j) (g.tk c)=u:=by rw[HU.out,HJ.out];rfl
        rw[hre]at he hw;refine⟨_,he,⟨rfl,rv,?_⟩,hk⟩
        have hdq:dqG m g c={g with R:=updG g.R j (g.R j),T:=updG g.T j u.1,B:=updG g.B j u.2.1}:=by unfold dqG;rw[<-HJ.out,<-HU.out]
        rw[hdq];exact hw)
    | 16, _, _, ho =>
      have hoo:=Option.some.inj ho;subst hoo;have hK:=fun v w' h b=>hK v w' h (by rw[if_neg (by decide)];exact b)
      have f15:ρ (.tmp 40)= .tuple #[vT u.2.2, .int .i64 0]/\ ∃rv,IsWk w base gw m (dqG m g c) L {ad with Rv:=updG ad.Rv j rv} vW vE:=hd ⟨15, .data⟩ (by simp) (by rfl) (by decide)
      obtain⟨e3,_⟩:=f15;exact fx_val hK hρ (.tuple #[vT u.2.2, .int .i64 0]) (by simp[execOp,e3,go_sem]) rfl
    | 17, _, _, ho =>
      have hoo:=Option.some.inj ho;subst hoo;have hK:=fun v w' h b=>hK v w' h (by rw[if_neg (by decide)];exact b)
      have f16:ρ (.tmp 24)= .tuple #[vT u.2.2, .int .i64 0]:=hd ⟨16, .data⟩ (by simp) (by rfl) (by decide)
      exact fx_val hK hρ (vT u.2.2) (by simp[execOp,f16,go_sem]) rfl
    |18,_,hkF,_=>exact absurd (by decide) hkF
    | 19, _, _, ho =>
      have hoo:=Option.some.inj ho;subst hoo;have hK:=fun v w' h b=>hK v w' h (by rw[if_neg (by decide)];exact b)
      exact fx_make hK hρ (.pointer (some ⟨w.heap.size,0,none⟩)) (w.alloc (.cells #[.bool false, .int .i64 0, .int .i64 0, .int .i64 0, .int .i64 0, .int .i64 0] 65)) (by simp[execOp,go_sem]) ⟨w.heap.size,rfl,RowV.new w _ (cT (newTk false)),hI.2.2.size⟩ (below_alloc _)
    |kq+20,h,_,_=>exact absurd h (by omega)
  case hloose=>
    intro kq o hkF ho ρ w hA hd;simp only[List.mem_cons,List.not_mem_nil,or_false]at hkF;subst hkF;have hoo:=Option.some.inj ho;subst hoo;obtain⟨w1,e3⟩:=hd ⟨16, .data⟩ (by simp) (by rfl) (by decide)
    have e4:ρ (.tmp 24)= .tuple #[vT u.2.2, .int .i64 0]:=e3;exact⟨.int .i64 0,by simp[execOp,e4,go_sem],rfl⟩
  case hmid=>
    intro vals w hI hF;obtain⟨_,rv,hw⟩:=hF 15 (by decide) (by decide)
    have e41:=hF 17 (by decide) (by decide)
    obtain⟨x8,e8,r8,b8⟩:=hF 19 (by decide) (by decide)
    exact⟨Nat.le_refl _,by decide,hI.2.2,rv,x8,hw,e41,e8,b8,fun _=>r8,fun h=>absurd h (by decide),fun h=>absurd h (by decide)⟩
  case htail=>
    intro t o htm ho a1 w hA hT hL K hK;have htl:t<22:=(Array.getElem?_eq_some_iff.1 ho).1
    obtain⟨ρ,hρ⟩: ∃ρ,a1.eval=ρ:=⟨_,rfl⟩;rw[hρ]at hA
    try rw[hρ]at hL
    obtain rfl|rfl:t=20\/t=21:=by omega
    · have hoo:=Option.some.inj ho;subst hoo;obtain⟨t1,t2,hkp,rv,x8,hw,e41,e8,b8,r8,r8b,e12⟩:=hT;simp only[hρ]at e41 e8 e12;have hr:=r8 rfl;have q0:=hr.cell (j:=0) rfl;have z0:=hr.frozen 0;have q1:=hr.cell (j:=1) rfl;have z1:=hr.frozen 1;have q2:=hr.cell (j:=2) rfl;have z2:=hr.frozen 2;have q3:=hr.cell (j:=3) rfl;have z3:=hr.frozen 3;have q4:=hr.cell (j:=4) rfl;have z4:=hr.frozen 4;have q5:=hr.cell (j:=5) rfl;have z5:=hr.frozen 5;have hxT:x8≠ad.gT:=by have:=W1.out.gng.lts;omega
      unfold vT at e41;unfold Oper.wp;rw[show(execOp a1.eval _).run Tryz.prog w= .ok .skip ((((((w.setCell ⟨x8,0,none⟩ (.bool u.2.2.steal)).setCell ⟨x8,1,none⟩ (.int .i64 u.2.2.at_)).setCell ⟨x8,2,none⟩ (.int .i64 u.2.2.top)).setCell ⟨x8,3,none⟩ (.int .i64 u.2.2.bot)).setCell ⟨x8,4,none⟩ (.int .i64 u.2.2.got)).setCell ⟨x8,5,none⟩ (.int .i64 u.2.2.end_))from by rw[hρ];simp[execOp,e8,e41,q0,q1,q2,q3,q4,q5,z0,z1,z2,z3,z4,z5,go_sem],Oper.upon_skip]
      refine hK undef _ ⟨by decide,by decide,(((((hkp.setNew b8 _).setNew b8 _).setNew b8 _).setNew b8 _).setNew b8 _).setNew b8 _,rv,x8,hw.far6 hr hxT _ _ _ _ _ _,?_⟩
      simp only[reduceCtorEq,if_false,hρ];exact⟨e41,e8,b8,fun h=>absurd h (by decide),fun _=>(((((hr.set 0 _).set 1 _).set 2 _).set 3 _).set 4 _).set 5 _,fun h=>absurd h (by decide)⟩
    · have hoo:=Option.some.inj ho;subst hoo;obtain⟨t1,t2,hkp,rv,x8,hw,e41,e8,b8,r8,r8b,e12⟩:=hT;simp only[hρ]at e41 e8 e12;have hlz:ρ (.tmp 42)= .int .i64 0:=hL ⟨18, .data⟩ (by simp) (by rfl) (by decide)
      unfold Oper.wp;rw[show(execOp a1.eval _).run Tryz.prog w= .ok (.value (.int .i64 0)) (w)from by rw[hρ];simp[execOp,hlz,go_sem],Oper.upon_value]
      refine hK _ _ ⟨by decide,by decide,hkp,rv,x8,hw,?_⟩
      simp only[Option.some.injEq,Nat.reduceEqDiff,if_false,if_true,hρ];exact⟨e41,e8,b8,fun h=>absurd h (by decide),fun _=>r8b (by first|rfl|trivial|decide),fun _=>rfl⟩
  case hcon=>
    intro t f g w h hT;obtain⟨t1,t2,hkp,rv,x8,hw,e41,e8,b8,r8,r8b,e12⟩:=hT;have q41:=h 17 (by omega) (by simp)
    have q8:=h 19 (by omega) (by simp)
    simp only[List.getD_cons_zero,List.getD_cons_succ]at q41 q8;refine⟨t1,t2,hkp,rv,x8,hw,q41▸e41,q8▸e8,b8,r8,r8b,fun e=> ?_⟩
    have q12:=h 21 (by omega) (by simp)
    simp only[List.getD_cons_zero,List.getD_cons_succ]at q12;exact q12▸e12 e
  case hend=>
    intro vals w3 hT;obtain⟨_,_,hkp,rv,x8,hw,e41,e8,b8,_,r8,e12⟩:=hT;have X8:=Lib.hid (r8 (by decide))
    have W3:=Lib.hid hw;have HK3:=Lib.hid ((Kp.of_below HB1.out [ad.gD]).trans hkp);have HB8:Hid (w.heap.size<=x8):=Lib.hid (by have:=HB1.out.size;omega)
    have q12:=e12 rfl;clear r8 hkp hw e12 b8;simp only[fillA,fillL,List.contains_cons,List.contains_nil,Nat.reduceBEq,Bool.or_false,Bool.false_or,Bool.or_true,Bool.true_or,cond_true,cond_false,Nat.zero_add,Nat.reduceAdd];rw[e8,q12];clear e8 q12 e41;have e5:=X8.out.cell (j:=5) rfl;have hn: ¬((m:Int)<=(c:Int)):=by omega
    rcases HE4.out with e0|e1|e2
    · rw[e0]at e5;go_upto_region 6 with fail;refine wp_region_tail 8 [48,49,50,51,52,53,54,55,1000] [] (by kernel_rfl) (by kernel_rfl) (by intro d hd;simp at hd⊢;omega) (fun z=>IsWk z base gw m (dqG m g c) L {ad with Rv:=updG ad.Rv j rv} vW vE/\RowV x8 65 (cT u.2.2) z/\Kp [ad.gT] w3 z) (PhiW6 gw m c ad u.2.2) (fun _ _=>True) (ThtW6 w3 base gw m c (dqG m g c) L ad {ad with Rv:=updG ad.Rv j rv} vW vE u.2.2)
        (fun z z' h hb=>⟨h.1.below hb,h.2.1.below hb h.2.1.lt,h.2.2.trans (Kp.of_below hb _)⟩) phiW6_below (⟨W3.out.below (Below.refl _ _).drew,X8.out.drewN 1,Kp.of_below (Below.refl _ _).drew _⟩) ?hstep ?hloose ?hmid ?htail ?hcon ?hend
      case hstep=>
        intro kq o hkm hkF ho a1 w hI hA hd K hK;obtain⟨ρ,hρ⟩: ∃ρ,a1.eval=ρ:=⟨_,rfl⟩;rw[hρ]at hA hd
        match kq,hkm,hkF,ho with
        | 0, _, _, ho =>
          have hoo:=Option.some.inj ho;subst hoo;exact fx_val hK hρ (.pointer (some ⟨gw,0,none⟩)) (by have h:=hA.tmp 0 (by decide);simp[execOp,h,go_sem]) rfl
        | 1, _, _, ho =>
          have hoo:=Option.some.inj ho;subst hoo;have f0:ρ (.tmp 48)= .pointer (some ⟨gw,0,none⟩):=hd ⟨0, .data⟩ (by simp) (by rfl) (by decide)
          exact fx_val hK hρ (.pointer (some ⟨gw,0,none⟩)) (by simp[execOp,f0,go_sem]) rfl
        | 2, _, _, ho =>
          have hoo:=Option.some.inj ho;subst hoo;have f1:ρ (.tmp 49)= .pointer (some ⟨gw,0,none⟩):=hd ⟨1, .data⟩ (by simp) (by rfl) (by decide)
          exact fx_val hK hρ (.pointer (some ⟨gw,0,none⟩)) (by simp[execOp,f1,go_sem]) rfl
        | 3, _, _, ho =>
          have hoo:=Option.some.inj ho;subst hoo;have f2:ρ (.tmp 50)= .pointer (some ⟨gw,0,none⟩):=hd ⟨2, .data⟩ (by simp) (by rfl) (by decide)
          exact fx_val hK hρ (.pointer (some ⟨gw,3,none⟩)) (by simp[execOp,f2,go_sem]) rfl
        | 4, _, _, ho =>
          have hoo:=Option.some.inj ho;subst hoo;have f3:ρ (.tmp 51)= .pointer (some ⟨gw,3,none⟩):=hd ⟨3, .data⟩ (by simp) (by rfl) (by decide)
          have h0:w.cell? ⟨gw,3,none⟩=some (.slice (some ⟨ad.gT,0,none⟩) m ad.cT):=hI.1.row.cell rfl
          exact fx_val hK hρ (.slice (some ⟨ad.gT,0,none⟩) m ad.cT) (by simp[execOp,f3,h0,go_sem]) rfl
        | 5, _, _, ho =>
          have hoo:=Option.some.inj ho;subst hoo;exact fx_val hK hρ (.int .i64 c) (by have h:=hA.tmp 1 (by decide);simp[execOp,h,go_sem]) rfl
        | 6, _, _, ho =>
          have hoo:=Option.some.inj ho;subst hoo;have hp:=hA.tmp 7 (by decide)
          have h0:=hI.2.1.cell (j:=0) rfl;have h1:=hI.2.1.cell (j:=1) rfl;have h2:=hI.2.1.cell (j:=2) rfl;have h3:=hI.2.1.cell (j:=3) rfl;have h4:=hI.2.1.cell (j:=4) rfl;have h5:=hI.2.1.cell (j:=5) rfl;exact fx_val hK hρ (vT u.2.2) (by simp[execOp,hp,h0,h1,h2,h3,h4,h5,vT,go_sem]) rfl
        | 7, _, _, ho =>
          have hoo:=Option.some.inj ho;subst hoo;have f4:ρ (.tmp 52)= .slice (some ⟨ad.gT,0,none⟩) m ad.cT:=hd ⟨4, .data⟩ (by simp) (by rfl) (by decide)
          have f5:ρ (.tmp 53)= .int .i64 c:=hd ⟨5, .data⟩ (by simp) (by rfl) (by decide)
          have hcm:=HC.out;have hn: ¬((m:Int)<=(c:Int)):=by omega
          have e6:c * 6=6 * c:=Nat.mul_comm _ _;exact fx_val hK hρ (.pointer (some ⟨ad.gT,6 * c,none⟩)) (by simp[execOp,f4,f5,hcm,hn,e6,go_sem]) rfl
        |kq+8,h,_,_=>exact absurd h (by omega)
      case hloose=>
        intro kq o hkF ho ρ w hA hd;exact absurd hkF (by simp)
      case hmid=>
        intro vals w hI hF;have e7:=hF 7 (by decide) (by decide)
        have e6:=hF 6 (by decide) (by decide)
        exact⟨Nat.le_refl _,by decide,hI.2.2,fun _=>⟨hI.1,e6,e7⟩,fun h=>absurd h (by decide)⟩
      case htail=>
        intro t o htm ho a1 w hA hT hL K hK;have htl:t<9:=(Array.getElem?_eq_some_iff.1 ho).1
        obtain⟨ρ,hρ⟩: ∃ρ,a1.eval=ρ:=⟨_,rfl⟩;rw[hρ]at hA
        try rw[hρ]at hL
        obtain rfl:t=8:=by omega
        have hoo:=Option.some.inj ho;subst hoo;obtain⟨t1,t2,hkp,i1,i2⟩:=hT;obtain⟨hwk,e54,e55⟩:=i1 rfl;simp only[hρ]at e54 e55;unfold vT at e54;have y0:=hwk.gng.tk HC.out (i:=0) rfl;have v0:=(hwk.gng.frozen (6 * c+0)).2.1;have y1:=hwk.gng.tk HC.out (i:=1) rfl;have v1:=(hwk.gng.frozen (6 * c+1)).2.1;have y2:=hwk.gng.tk HC.out (i:=2) rfl;have v2:=(hwk.gng.frozen (6 * c+2)).2.1;have y3:=hwk.gng.tk HC.out (i:=3) rfl;have v3:=(hwk.gng.frozen (6 * c+3)).2.1;have y4:=hwk.gng.tk HC.out (i:=4) rfl;have v4:=(hwk.gng.frozen (6 * c+4)).2.1;have y5:=hwk.gng.tk HC.out (i:=5) rfl;have v5:=(hwk.gng.frozen (6 * c+5)).2.1;simp only[Nat.add_zero]at y0 v0;unfold Oper.wp;rw[show(execOp a1.eval _).run Tryz.prog w= .ok .skip ((((((w.setCell ⟨ad.gT,6 * c,none⟩ (.bool u.2.2.steal)).setCell ⟨ad.gT,6 * c+1,none⟩ (.int .i64 u.2.2.at_)).setCell ⟨ad.gT,6 * c+2,none⟩ (.int .i64 u.2.2.top)).setCell ⟨ad.gT,6 * c+3,none⟩ (.int .i64 u.2.2.bot)).setCell ⟨ad.gT,6 * c+4,none⟩ (.int .i64 u.2.2.got)).setCell ⟨ad.gT,6 * c+5,none⟩ (.int .i64 u.2.2.end_))from by rw[hρ];simp[execOp,e54,e55,y0,y1,y2,y3,y4,y5,v0,v1,v2,v3,v4,v5,go_sem],Oper.upon_skip]
        refine hK undef _ ⟨by decide,by decide,(((((hkp.set _ (by simp)).set _ (by simp)).set _ (by simp)).set _ (by simp)).set _ (by simp)).set _ (by simp),fun h=>absurd h (by decide),fun _=>hwk.turnT HC.out u.2.2⟩
      case hcon=>
        intro t f g w h hT;obtain⟨t1,t2,hkp,i1,i2⟩:=hT;have q7:=h 7 (by omega) (by simp)
        have q6:=h 6 (by omega) (by simp)
        simp only[List.getD_cons_zero,List.getD_cons_succ]at q6 q7;exact⟨t1,t2,hkp,fun e=>⟨(i1 e).1,q6▸(i1 e).2.1,q7▸(i1 e).2.2⟩,i2⟩
      case hend=>
        intro vals wz hT;obtain⟨_,_,hkp,_,i2⟩:=hT;have W4:=Lib.hid (i2 rfl);have HK4:=Lib.hid ((HK3.out.more (by simp)).trans (hkp.more (by simp)):Kp [ad.gO,ad.gD,ad.gF,ad.gT] w wz)
        clear i2 hkp;simp only[fillA,fillL,List.contains_cons,List.contains_nil,Nat.reduceBEq,Bool.or_false,Bool.false_or,Bool.or_true,Bool.true_or,cond_true,cond_false,Nat.zero_add,Nat.reduceAdd];go_wp2;go_ret;refine⟨rfl,⟨updG ad.Rv j rv,?_⟩,HK4.out⟩
        rw[<-dqG_go (by rw[<-HU.out];exact e0),<-HU.out]
        exact W4.out
    · obtain⟨x,hx1,hx2,hx3⟩:=HST.out.1 (by rw[<-HU.out];exact e1)
      rw[<-HU.out]at hx1;have e4:=X8.out.cell (j:=4) rfl;rw[e1]at e5;rw[hx1]at e4;have CR:=Lib.hid (run_any (g:=dqG m g c) w3 hc hm8 hx2 hx3 HOK.out.crew HM.out (HG.out.below (HK3.out.below (base:=base) (fun b hb=>by rw[List.mem_singleton]at hb;rw[hb];exact H.out.gng.lts.2.1.1) (by have:=H.out.gng.lts;omega))) (by rw[<-HVW.out,<-HVE.out];exact W3.out))
      rw[<-HVW.out,<-HVE.out]at CR;go_wp2_with fail;refine CR.out.mono ?_
      rintro e w4 ⟨rfl,hw4,hk4⟩;have W4:=Lib.hid hw4;have HK4:Hid (Kp [ad.gO,ad.gD,ad.gF,ad.gT] w w4):=Lib.hid ((HK3.out.more (by simp)).trans (hk4.more (by simp)))
      clear hw4 hk4 CR e4 e5;go_wp2;go_ret
      first|refine⟨rfl,updG ad.Rv j rv,?_,HK4.out⟩|refine⟨rfl,⟨updG ad.Rv j rv,?_⟩,HK4.out⟩
      rw[<-dqG_run (by rw[<-HU.out];exact e1) (by rw[<-HU.out];exact hx1)]
      exact W4.out
    · have hne0:u.2.2.end_≠0:=by omega
      have hne1:u.2.2.end_≠1:=by omega
      have hm0: ¬m=0:=by omega
      obtain⟨k,hk⟩: ∃k,k=(f+1)%m:=⟨_,rfl⟩;have htm:((f:Int)+1).tmod (m:Int)=(k:Int):=by
        rw[hk]
        exact_mod_cast (rfl:((f+1:Nat):Int).tmod (m:Int)=(((f+1)%m:Nat):Int))
      have CT:=Lib.hid (turn_any k w3 hc hm8 W3.out);have fin: ∀w4,IsWk w4 base gw m (turnG (dqG m g c) c k) L {ad with Rv:=updG ad.Rv j rv} vW vE->Kp [ad.gF,ad.gT] w3 w4-> ∃Rv',IsWk w4 base gw m (stepG m g c) L {ad with Rv:=Rv'} vW vE/\Kp [ad.gO,ad.gD,ad.gF,ad.gT] w w4:=fun w4 hw4 hk4=>by
        refine⟨updG ad.Rv j rv,?_,(HK3.out.more (by simp)).trans (hk4.more (by simp))⟩
        rw[<-dqG_turn (by rw[<-HU.out];exact hne0) (by rw[<-HU.out];exact hne1),HF.out,<-hk]
        exact hw4
      have FIN:=Lib.hid fin;clear fin hk;rcases e2 with e2|e2
      · rw[e2]at e5;go_wp2_with fail;refine CT.out.mono ?_
        rintro e w4 ⟨rfl,hw4,hk4⟩;have HFW:=Lib.hid (FIN.out w4 hw4 hk4);clear hw4 hk4 CT FIN e5;go_wp2;go_ret
        first|exact⟨rfl,HFW.out⟩|(obtain⟨q1,q2,q3⟩:=HFW.out;exact⟨rfl,⟨q1,q2⟩,q3⟩)
      · rw[e2]at e5;go_wp2_with fail;refine CT.out.mono ?_
        rintro e w4 ⟨rfl,hw4,hk4⟩;have HFW:=Lib.hid (FIN.out w4 hw4 hk4);clear hw4 hk4 CT FIN e5;go_wp2;go_ret
        first|exact⟨rfl,HFW.out⟩|(obtain⟨q1,q2,q3⟩:=HFW.out;exact⟨rfl,⟨q1,q2⟩,q3⟩)
end
section
variable {base gw m: Nat} {g: Gng} {L: List Int} {a: GAd} {vW vE: Value}
theorem deal_any{x:Nat}(w:World)(hm1:1<=m)(hm:m<=8)(hT:DTab w)(h:IsWk w base gw m g L a vW vE)(hl:(g.R (x%m)).length=64)(hp:pushE 64 (g.T (x%m)) (g.B (x%m))=0):
  Calls Tryz.prog 60 #[.pointer (some ⟨gw,0,none⟩),.int .i64 x] w fun e w'=>e= .returned (.int .i64 0)/\ ∃v,IsWk w' base gw m (pushG g (x%m) x) L {a with Rv:=updG a.Rv (x%m) v} vW vE/\Kp [a.gD] w w':=by
 obtain⟨j,hj⟩: ∃j,j=x%m:=⟨_,rfl⟩;have hjm:j<m:=by rw[hj];exact Nat.mod_lt _ (by omega)
 rw[<-hj]at hl hp⊢;have HJ:Hid ((x:Int).tmod (m:Int)=(j:Int)):=Lib.hid (by rw[hj];simp[Int.tmod])
 have CS:=Lib.hid (fun(W:World) (hb:Below w.heap.size w W)=>storeOf_any (c:=j) hjm (h.below hb))
 have CQ:=Lib.hid (fun(W:World) (hb:Below w.heap.size w W)=>push_any (x:Int) W hjm hm (hT.via hb) (h.below hb) hl hp)
 have H:=Lib.hid h;have hm0: ¬m=0:=by omega
 have c0:w.cell? ⟨gw,0,none⟩=some (.slice (some ⟨a.gO,0,none⟩) m a.cO):=h.row.cell rfl
 have e1:(x:Int).tmod (m:Int)=(j:Int):=HJ.out;clear h hT hl hp hj hjm;go_enter Tryz.func60,Tryz.ntmps60;go_upto_region 1 with fail
 go_wp2_with(first
  |(go_at_call 70;refine(CS.out _ (Below.refl _ _)).mono ?_;rintro e w1 ⟨rfl,hb⟩;(have HB1:=Lib.hid hb);clear hb)
  |(go_at_call 71;refine(CQ.out _ HB1.out).mono ?_;rintro e w2 ⟨rfl,v,hwk,hkp⟩;(have HW:=Lib.hid hwk);(have HK:=Lib.hid hkp);clear hwk hkp))
 go_ret;exact⟨rfl,v,HW.out,(Kp.of_below HB1.out _).trans HK.out⟩
end
theorem each_any(A:Option Addr)(c n B:Nat)(l:List Int)(g:Nat)(v1:Value)(eg: ∀args w,(callFunc g args).run Tryz.prog w= .ok (.enter g args) w)(I:Nat->World->Prop)(hn:l.length=n)(hl:n<=1000)
  (hI: ∀k W,I k W->Ints W B A l)
  (hp: ∀k x W,l[k]? =some x->I k W->Calls Tryz.prog g #[v1,.int .i64 x] W fun e w'=>e= .returned (.int .i64 0)/\I (k+1) w')
  (w:World) (h0:I 0 w):
  Calls Tryz.prog 58 #[.slice A n c,.func (.func g) #[v1] #[]] w fun e w'=>e= .returned (.int .i64 0)/\I n w':=by
 have HT:=Lib.hid hI;have HP:=Lib.hid hp;have HN:=Lib.hid hn;have H0:=Lib.hid h0;clear hI hp hn h0;go_enter Tryz.func58,Tryz.ntmps58;go_wp2;go_loopw [10] (fun v wr=> ∃k:Nat,k<=n/\v= .int .i64 k/\Hid (I k wr)) (fun v _=>n - (intOf v).toNat)
 case atStart=>exact⟨0,Nat.zero_le _,rfl,H0⟩
 case round=>
  obtain⟨k,hk,rfl,HI⟩:=hrel;clear H0
  by_cases hlt:k<n
  ·obtain ⟨bk,off,x,rfl,hbg,hek,d1⟩:=(HT.out k wr HI.out).at_ (k:=k) (by rw [HN.out]; exact hlt)
   have HEK:=Lib.hid hek;have hcall:=HP.out k x wr hek HI.out;clear hek
   go_wp2_with(go_at_fn g;refine hcall.mono ?_;rintro e w' ⟨rfl,hb'⟩;have HB:=Lib.hid hb';clear hb')
   go_roundw
   case rel=>exact⟨k+1,by omega,by go_num,HB⟩
   case measure=>simp[intOf];omega
  ·have e: k = n:=by omega
   subst e;go_wp2;go_ret;exact⟨rfl,HI.out⟩
end Go.Proofs.YtngdbbligebcbabGreatDoor
