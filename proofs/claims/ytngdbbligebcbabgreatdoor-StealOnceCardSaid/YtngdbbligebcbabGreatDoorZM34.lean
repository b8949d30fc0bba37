import Derived.Test.YtngdbbligebcbabGreatDoorZM29
import Derived.Test.YtngdbbligebcbabGreatDoorZM31
import Derived.Test.YtngdbbligebcbabGreatDoorZM33
import Derived.Test.YtngdbbligebcbabGreatDoorZM24
import Derived.Shelf.Abstract
set_option linter.unusedVariables false
set_option linter.unusedSimpArgs false
set_option maxRecDepth 100000
set_option maxHeartbeats 16000000
namespace Go.Proofs.YtngdbbligebcbabGreatDoor
open Go Go.RowKit
def PhiRt(b gb m c f:Nat)(ad:GAd)(t0:Tkr):Nat->Value->World->Prop
 |0,v,w=>v= .pointer (some ⟨gb,3,none⟩)
 |1,v,w=>v= .slice (some ⟨ad.gT,0,none⟩) m ad.cT
 |2,v,w=>v= .int .i64 c
 |3,v,w=>v= .pointer (some ⟨ad.gT,6 * c,none⟩)
 |4,v,w=>v=vT t0
 |5,v,w=>v= .pointer (some ⟨gb,4,none⟩)
 |6,v,w=>v= .slice (some ⟨ad.gF,0,none⟩) m ad.cF
 |7,v,w=>v= .int .i64 c
 |8,v,w=>v= .pointer (some ⟨ad.gF,c,none⟩)
 |9,v,w=>v= .int .i64 f
 |10,v,w=> ∃x,v= .pointer (some ⟨x,0,none⟩)/\RowV x 65 (cT (newTk false)) w/\b<=x
 |11,v,w=>True
 |12,v,w=>v= .int .i64 f
 |_,_,_=>True
theorem phiRt_below(b gb m c f:Nat)(ad:GAd)(t0:Tkr): ∀kq v w w',PhiRt b gb m c f ad t0 kq v w->Below w.heap.size w w'->PhiRt b gb m c f ad t0 kq v w':=by
 intro kq v w w' h hb
 match kq,h with
 |0,h=>exact h
 |1,h=>exact h
 |2,h=>exact h
 |3,h=>exact h
 |4,h=>exact h
 |5,h=>exact h
 |6,h=>exact h
 |7,h=>exact h
 |8,h=>exact h
 |9,h=>exact h
 |10,h=>exact(by obtain⟨x,e,hr,hx⟩:=h;exact⟨x,e,hr.below hb hr.lt,hx⟩)
 |11,h=>exact h
 |12,h=>exact h
 |kq+13,h=>exact trivial
def ThtRt(b:Nat)(wr:World)(t0:Tkr)(fv:Nat->Value)(w:World):Prop:=
 Below b wr w/\ ∃x,fv 5= .pointer (some ⟨x,0,none⟩)/\b<=x/\RowV x 65 (cT t0) w
structure TkFit(g:Gng)(m c:Nat):Prop where
 end_:(g.tk c).end_=0
 lt:g.fr c<m
 st:(g.tk c).steal=decide ((g.fr c:Int)≠0)
 busy:g.O.getD c 0= -1\/(g.fr c=0/\g.tk c=newTk false)
theorem GOk.fit{n m:Nat}{E:List (Int×Int)}{L:List Int}{g:Gng}{c:Nat}(h:GOk n m E L g)(hc:c<m):TkFit g m c:=by
 by_cases hf:g.fr c=0
 ·have ho:=(h.dq c hc).own
  unfold owG at ho;rw[if_pos hf]at ho;refine⟨ho.2.1,h.fr c hc,by rw[ho.1,hf];rfl,?_⟩
  by_cases hO:g.O.getD c 0= -1
  ·exact .inl hO
  ·exact .inr (h.busy c hc hO)
 ·have ht:=h.th c hc hf
  refine⟨ht.2.1,h.fr c hc,by rw[ht.1];exact(decide_eq_true (by omega)).symm,.inl (Classical.byContradiction fun q=>hf (h.busy c hc q).1)⟩
section
variable {base m: Nat} {g: Gng} {L: List Int} {ad: GAd}
theorem rtaker_any{c:Nat}(w:World)(hc:c<m)(hm:m<=8)(h:GngR w base m g L ad)(hfit:TkFit g m c):
    Calls Tryz.prog 90 #[.agg #[.slice (some ⟨ad.gO,0,none⟩) m ad.cO,ad.vL, .slice (some ⟨ad.gD,0,none⟩) m ad.cD, .slice (some ⟨ad.gT,0,none⟩) m ad.cT, .slice (some ⟨ad.gF,0,none⟩) m ad.cF], .int .i64 c] w fun e w'=>e= .returned (.bool true)/\Below w.heap.size w w':=by
  obtain⟨w1,hw1⟩: ∃w1,w1=w.alloc (.cells #[.slice (some ⟨ad.gO,0,none⟩) m ad.cO,ad.vL, .slice (some ⟨ad.gD,0,none⟩) m ad.cD, .slice (some ⟨ad.gT,0,none⟩) m ad.cT, .slice (some ⟨ad.gF,0,none⟩) m ad.cF] 41):=⟨_,rfl⟩;have HB1:Hid (Below w.heap.size w w1):=Lib.hid (by rw[hw1];exact below_alloc _)
  have HR1:Hid (RowV w.heap.size 41 (gangC m ad) w1):=Lib.hid (by rw[hw1];exact RowV.new w _ (gangC m ad))
  have HG1:=Lib.hid (h.below HB1.out);have HW1:=Lib.hid hw1;obtain⟨t0,ht0⟩: ∃t0,t0=g.tk c:=⟨_,rfl⟩;obtain⟨f,hf⟩: ∃f,f=g.fr c:=⟨_,rfl⟩;obtain⟨q1,q2,q3,q4⟩:=hfit;rw[<-ht0]at q1 q3 q4;rw[<-hf]at q2 q3 q4;have HT0:=Lib.hid ht0;have HF:=Lib.hid hf;have HE:=Lib.hid q1;have HLT:=Lib.hid q2;have HST:=Lib.hid q3;have HBZ:=Lib.hid q4;have HC:=Lib.hid hc;have CF:=Lib.hid (fun W=>fresh_any 0 W)
  have e6:c * 6=6 * c:=Nat.mul_comm _ _;clear h hw1 ht0 hf q1 q2 q3 q4 hc;go_enter Tryz.func90,Tryz.ntmps90;go_upto_region 1 with fail;rw[<-HW1.out];obtain⟨gb,hgb⟩: ∃gb,gb=w.heap.size:=⟨_,rfl⟩;rw[<-hgb]at HR1;have HGB:=Lib.hid hgb;clear hgb;refine wp_region_stored5 11 [7,8,9,10,11,12,13,14,15,16,5,1000,6] [5,6,7,8,9,12] [5,6,7,8,9,12] w1.heap.size (by kernel_rfl) (by kernel_rfl) (by intro d hd;simp at hd⊢;omega) (fun z=>Below w1.heap.size w1 z) (PhiRt w1.heap.size gb m c f ad t0) (ThtRt w1.heap.size w1 t0)
    (fun z z' h hb=>h.trans (hb.mono h.size)) (phiRt_below w1.heap.size gb m c f ad t0) ((Below.refl _ _).drew) ?hstep ?hside ?hstore ?htheta ?hthetab (Nat.le_refl _) (fun f w h=>h.1) ?hend
  case hstep=>
    intro kq o hkp hkS ho a w hI hA hd K hK;obtain⟨ρ,hρ⟩: ∃ρ,a.eval=ρ:=⟨_,rfl⟩;rw[hρ]at hA hd
    match kq,hkp,hkS,ho with
    | 0, _, _, ho =>
      have hoo:=Option.some.inj ho;subst hoo;have hp:ρ (.tmp 2)= .pointer (some ⟨gb,0,none⟩):=by rw[HGB.out];exact hA.tmp 2 (by decide)
      exact fx_val hK hρ (.pointer (some ⟨gb,3,none⟩)) (by simp[execOp,hp,go_sem]) rfl
    | 1, _, _, ho =>
      have hoo:=Option.some.inj ho;subst hoo;have f0:(ρ (.tmp 7))= .pointer (some ⟨gb,3,none⟩):=hd ⟨0, .data⟩ (by simp) (by rfl)
      have h0:w.cell? ⟨gb,3,none⟩=some (.slice (some ⟨ad.gT,0,none⟩) m ad.cT):=(HR1.out.below hI HR1.out.lt).cell rfl
      exact fx_val hK hρ (.slice (some ⟨ad.gT,0,none⟩) m ad.cT) (by simp[execOp,f0,h0,go_sem]) rfl
    | 2, _, _, ho =>
      have hoo:=Option.some.inj ho;subst hoo;exact fx_val hK hρ (.int .i64 c) (by have h:=hA.tmp 1 (by decide);simp[execOp,h,go_sem]) rfl
    | 3, _, _, ho =>
      have hoo:=Option.some.inj ho;subst hoo;have f1:(ρ (.tmp 8))= .slice (some ⟨ad.gT,0,none⟩) m ad.cT:=hd ⟨1, .data⟩ (by simp) (by rfl)
      have f2:(ρ (.tmp 9))= .int .i64 c:=hd ⟨2, .data⟩ (by simp) (by rfl)
      have hcm:c<m:=HC.out;have hn: ¬((m:Int)<=(c:Int)):=by omega
      exact fx_val hK hρ (.pointer (some ⟨ad.gT,6 * c,none⟩)) (by simp[execOp,f1,f2,hn,hcm,e6,go_sem]) rfl
    | 4, _, _, ho =>
      have hoo:=Option.some.inj ho;subst hoo;have f3:(ρ (.tmp 10))= .pointer (some ⟨ad.gT,6 * c,none⟩):=hd ⟨3, .data⟩ (by simp) (by rfl)
      have h0:=(HG1.out.below hI).tk HC.out (i:=0) rfl;have h1:=(HG1.out.below hI).tk HC.out (i:=1) rfl;have h2:=(HG1.out.below hI).tk HC.out (i:=2) rfl;have h3:=(HG1.out.below hI).tk HC.out (i:=3) rfl;have h4:=(HG1.out.below hI).tk HC.out (i:=4) rfl;have h5:=(HG1.out.below hI).tk HC.out (i:=5) rfl;simp only[Nat.add_zero]at h0;rw[<-HT0.out]at h0 h1 h2 h3 h4 h5;exact fx_val hK hρ (vT t0) (by simp[execOp,f3,h0,h1,h2,h3,h4,h5,vT,go_sem]) rfl
    |5,_,hkS,_=>exact absurd (by decide) hkS
    |6,_,hkS,_=>exact absurd (by decide) hkS
    |7,_,hkS,_=>exact absurd (by decide) hkS
    |8,_,hkS,_=>exact absurd (by decide) hkS
    |9,_,hkS,_=>exact absurd (by decide) hkS
    | 10, _, _, ho =>
      have hoo:=Option.some.inj ho;subst hoo;exact fx_make hK hρ (.pointer (some ⟨w.heap.size,0,none⟩)) (w.alloc (.cells #[.bool false, .int .i64 0, .int .i64 0, .int .i64 0, .int .i64 0, .int .i64 0] 65)) (by simp[execOp,go_sem]) ⟨w.heap.size,rfl,RowV.new w _ (cT (newTk false)),hI.size⟩ (below_alloc _)
    |11,hkp,_,_=>exact absurd rfl hkp
    |12,_,hkS,_=>exact absurd (by decide) hkS
    |kq+13,_,_,ho=>simp at ho
  case hside=>
    intro kq o hkS ho ρ w hbw hI hA hd;simp only[List.mem_cons,List.not_mem_nil,or_false]at hkS;rcases hkS with rfl|rfl|rfl|rfl|rfl|rfl
    · have hoo:=Option.some.inj ho;subst hoo;have hp:ρ (.tmp 2)= .pointer (some ⟨gb,0,none⟩):=by rw[HGB.out];exact hA.tmp 2 (by decide)
      exact⟨.pointer (some ⟨gb,4,none⟩),w,by simp[execOp,hp,go_sem],rfl,Below.refl _ _⟩
    · have hoo:=Option.some.inj ho;subst hoo;obtain⟨w1,f5a,hw1⟩:=hd ⟨5, .data⟩ (by simp) (by rfl) (by decide)
      rw[hw1 (by decide)]at f5a
      have f5:(ρ (.tmp 12))= .pointer (some ⟨gb,4,none⟩):=f5a;have h0:w.cell? ⟨gb,4,none⟩=some (.slice (some ⟨ad.gF,0,none⟩) m ad.cF):=(HR1.out.below hI HR1.out.lt).cell rfl
      exact⟨.slice (some ⟨ad.gF,0,none⟩) m ad.cF,w,by simp[execOp,f5,h0,go_sem],rfl,Below.refl _ _⟩
    · have hoo:=Option.some.inj ho;subst hoo;have hp:=hA.tmp 1 (by decide)
      exact⟨.int .i64 c,w,by simp[execOp,hp,go_sem],rfl,Below.refl _ _⟩
    · have hoo:=Option.some.inj ho;subst hoo;obtain⟨w1,f6a,hw1⟩:=hd ⟨6, .data⟩ (by simp) (by rfl) (by decide)
      rw[hw1 (by decide)]at f6a
      have f6:(ρ (.tmp 13))= .slice (some ⟨ad.gF,0,none⟩) m ad.cF:=f6a;obtain⟨w1,f7a,hw1⟩:=hd ⟨7, .data⟩ (by simp) (by rfl) (by decide)
      rw[hw1 (by decide)]at f7a
      have f7:(ρ (.tmp 14))= .int .i64 c:=f7a;have hcm:c<m:=HC.out;have hn: ¬((m:Int)<=(c:Int)):=by omega
      exact⟨.pointer (some ⟨ad.gF,c,none⟩),w,by simp[execOp,f6,f7,hn,hcm,go_sem],rfl,Below.refl _ _⟩
    · have hoo:=Option.some.inj ho;subst hoo;obtain⟨w1,f8a,hw1⟩:=hd ⟨8, .data⟩ (by simp) (by rfl) (by decide)
      rw[hw1 (by decide)]at f8a
      have f8:(ρ (.tmp 15))= .pointer (some ⟨ad.gF,c,none⟩):=f8a;have h0:=(HG1.out.below hI).fr HC.out;rw[<-HF.out]at h0;exact⟨.int .i64 f,w,by simp[execOp,f8,h0,go_sem],rfl,Below.refl _ _⟩
    · have hoo:=Option.some.inj ho;subst hoo;obtain⟨w1,f9a,hw1⟩:=hd ⟨9, .data⟩ (by simp) (by rfl) (by decide)
      rw[hw1 (by decide)]at f9a
      have f9:(ρ (.tmp 16))= .int .i64 f:=f9a;exact⟨.int .i64 f,w,by simp[execOp,f9,go_sem],rfl,Below.refl _ _⟩
  case hstore=>
    intro o ho a w hI hA hF K hK;have hoo:=Option.some.inj ho;subst hoo;have f11:=hF 4 (by decide) (by decide) (by decide)
    have f10:=hF 10 (by decide) (by decide) (by decide)
    obtain⟨ρ,hρ⟩: ∃ρ,a.eval=ρ:=⟨_,rfl⟩;rw[hρ]at f11 f10 hA;obtain⟨x,ex,hr,bx⟩:=f10;replace ex:ρ (.tmp 5)= .pointer (some ⟨x,0,none⟩):=ex;replace f11:ρ (.tmp 11)=vT t0:=f11;unfold vT at f11;have q0:=hr.cell (j:=0) rfl;have z0:=hr.frozen 0;have q1:=hr.cell (j:=1) rfl;have z1:=hr.frozen 1;have q2:=hr.cell (j:=2) rfl;have z2:=hr.frozen 2;have q3:=hr.cell (j:=3) rfl;have z3:=hr.frozen 3;have q4:=hr.cell (j:=4) rfl;have z4:=hr.frozen 4;have q5:=hr.cell (j:=5) rfl;have z5:=hr.frozen 5;unfold Oper.wp;rw[show(execOp a.eval _).run Tryz.prog w= .ok .skip ((((((w.setCell ⟨x,0,none⟩ (.bool t0.steal)).setCell ⟨x,1,none⟩ (.int .i64 t0.at_)).setCell ⟨x,2,none⟩ (.int .i64 t0.top)).setCell ⟨x,3,none⟩ (.int .i64 t0.bot)).setCell ⟨x,4,none⟩ (.int .i64 t0.got)).setCell ⟨x,5,none⟩ (.int .i64 t0.end_))from by rw[hρ];simp[execOp,ex,f11,q0,q1,q2,q3,q4,q5,z0,z1,z2,z3,z4,z5,go_sem],Oper.upon_skip]
    have hb6:=(((((hI.setCell (p:=⟨x,0,none⟩) bx (.bool t0.steal)).setCell (p:=⟨x,1,none⟩) bx (.int .i64 t0.at_)).setCell (p:=⟨x,2,none⟩) bx (.int .i64 t0.top)).setCell (p:=⟨x,3,none⟩) bx (.int .i64 t0.bot)).setCell (p:=⟨x,4,none⟩) bx (.int .i64 t0.got)).setCell (p:=⟨x,5,none⟩) bx (.int .i64 t0.end_);refine hK _ ⟨hb6,x,by rw[hρ];exact ex,bx,(((((hr.set 0 _).set 1 _).set 2 _).set 3 _).set 4 _).set 5 _⟩ hb6.size ?_
    intro k hk v hv;simp only[List.mem_cons,List.not_mem_nil,or_false]at hk;rcases hk with rfl|rfl|rfl|rfl|rfl|rfl
    · exact(show v= .pointer (some ⟨gb,4,none⟩)from hv)
    · exact(show v= .slice (some ⟨ad.gF,0,none⟩) m ad.cF from hv)
    · exact(show v= .int .i64 c from hv)
    · exact(show v= .pointer (some ⟨ad.gF,c,none⟩)from hv)
    · exact(show v= .int .i64 f from hv)
    · exact(show v= .int .i64 f from hv)
  case htheta=>
    intro f g w h hT;obtain⟨h1,x,ex,h2⟩:=hT;have q5:=h 10 (by decide) (by decide) (by decide)
    simp only[List.getD_cons_zero,List.getD_cons_succ]at q5;exact⟨h1,x,q5▸ex,h2⟩
  case hthetab=>
    intro f w w' hT hb;obtain⟨h1,x,ex,bx,hr⟩:=hT;exact⟨h1.trans (hb.mono h1.size),x,ex,bx,hr.below hb hr.lt⟩
  case hend=>
    intro vals w3 hT hF;obtain⟨hbl,x,ex,bx,hr⟩:=hT;obtain⟨_,e6b,_⟩:=hF 12 (by decide) (by decide)
    replace e6b:vals 6= .int .i64 f:=e6b;simp only[fillA,fillL,List.contains_cons,List.contains_nil,Nat.reduceBEq,Bool.or_false,Bool.false_or,Bool.or_true,Bool.true_or,cond_true,cond_false,Nat.zero_add,Nat.reduceAdd,ex,e6b];clear hF ex e6b;have hr1:=HR1.out;rw[HGB.out]at hr1;have HB3:=Lib.hid (HB1.out.trans (hbl.mono HB1.out.size));have HR3:=Lib.hid (hr1.below hbl hr1.lt);have HG3:=Lib.hid (HG1.out.below hbl);have HX:=Lib.hid hr;have r0:w3.cell? ⟨w.heap.size,0,none⟩=some (.slice (some ⟨ad.gO,0,none⟩) m ad.cO):=HR3.out.cell rfl
    have x5:w3.cell? ⟨x,5,none⟩=some (.int .i64 t0.end_):=HX.out.cell rfl
    rw[HE.out]at x5;have x0:w3.cell? ⟨x,0,none⟩=some (.bool t0.steal):=HX.out.cell rfl
    rw[HST.out]at x0;have o0:=HG3.out.onc HC.out;obtain⟨y,hy⟩: ∃y,y=g.O.getD c 0:=⟨_,rfl⟩;rw[<-hy]at o0;have HY:=Lib.hid hy;have d1:decide ((f:Int)<0)=false:=decide_eq_false (by omega)
    have d2:decide ((m:Int)<=(f:Int))=false:=decide_eq_false (by have:=HLT.out;omega)
    have d1': ¬((f:Int)<0):=by omega
    have d2': ¬((m:Int)<=(f:Int)):=by have:=HLT.out;omega
    have hn: ¬((m:Int)<=(c:Int)):=by have:=HC.out;omega
    clear hbl hr bx hr1 HR1 HGB hy
    by_cases hid:y= -1
    · have d4:(y== -1)=true:=by rw[hid];rfl
      clear hid
      by_cases hf0:f=0
      · have b1:((f:Int) !=0)=false:=by rw[hf0];rfl
        rw[decide_eq_false (show¬((f:Int)≠0)from fun q=>q (by rw[hf0];rfl))]at x0
        clear hf0;go_upto_region 4 with fail
        go_quiet (fail)
        go_wp2;go_ret
        exact⟨rfl,below_drewN HB3.out _⟩
      · have b1:((f:Int) !=0)=true:=bne_iff_ne.mpr (by omega)
        rw[decide_eq_true (show((f:Int)≠0) by omega)]at x0
        clear hf0;go_upto_region 4 with fail
        go_quiet (fail)
        go_wp2;go_ret
        exact⟨rfl,below_drewN HB3.out _⟩
    · have d4:(y== -1)=false:=by simpa using hid
      obtain⟨hf0,ht0⟩:=HBZ.out.resolve_left (fun q=>hid (HY.out.trans q))
      have b1:((f:Int) !=0)=false:=by rw[hf0];rfl
      have b2:((f:Int)==0)=true:=by rw[hf0];rfl
      rw[decide_eq_false (show¬((f:Int)≠0)from fun q=>q (by rw[hf0];rfl))]at x0
      have x1:w3.cell? ⟨x,1,none⟩=some (.int .i64 0):=by have:=HX.out.cell (j:=1) rfl;rw[this,ht0];rfl
      have x2:w3.cell? ⟨x,2,none⟩=some (.int .i64 0):=by have:=HX.out.cell (j:=2) rfl;rw[this,ht0];rfl
      have x3:w3.cell? ⟨x,3,none⟩=some (.int .i64 0):=by have:=HX.out.cell (j:=3) rfl;rw[this,ht0];rfl
      have x4:w3.cell? ⟨x,4,none⟩=some (.int .i64 0):=by have:=HX.out.cell (j:=4) rfl;rw[this,ht0];rfl
      have HTN:=Lib.hid ht0;clear hf0 ht0 hid;have CF0:Hid (∀W,Calls Tryz.prog 119 #[.int .i64 0] W fun e w'=>e= .returned (.agg #[.bool false, .int .i64 0, .int .i64 0, .int .i64 0, .int .i64 0, .int .i64 0])/\Below W.heap.size W w'):=Lib.hid fun W=>fresh_any 0 W
      have HX0:Hid (RowV x 65 (cT (newTk false)) w3):=Lib.hid (by have:=HX.out;rw[HTN.out]at this;exact this)
      clear CF;go_upto_region 4 with fail
      go_region_with (go_at_call 119;refine(CF0.out _).mono ?_;rintro e w' ⟨rfl,hb⟩;(have HQ':Hid (Below w3.heap.size w3 w'):=Lib.hid (((Below.refl _ _).drew).trans hb));clear hb;(have y0:w'.cell? ⟨x,0,none⟩=some (.bool false):=(HX0.out.below HQ'.out HX0.out.lt).cell rfl);(have y1:w'.cell? ⟨x,1,none⟩=some (.int .i64 0):=(HX0.out.below HQ'.out HX0.out.lt).cell rfl);(have y2:w'.cell? ⟨x,2,none⟩=some (.int .i64 0):=(HX0.out.below HQ'.out HX0.out.lt).cell rfl);(have y3:w'.cell? ⟨x,3,none⟩=some (.int .i64 0):=(HX0.out.below HQ'.out HX0.out.lt).cell rfl);(have y4:w'.cell? ⟨x,4,none⟩=some (.int .i64 0):=(HX0.out.below HQ'.out HX0.out.lt).cell rfl);(have y5:w'.cell? ⟨x,5,none⟩=some (.int .i64 0):=(HX0.out.below HQ'.out HX0.out.lt).cell rfl))
      all_goals go_wp2
      all_goals
        go_ret;exact⟨rfl,HB3.out.trans (HQ'.out.mono HB3.out.size)⟩
end
section
variable {base m: Nat} {g: Gng} {L: List Int} {ad: GAd}
theorem rdeque_any(A:Option Addr)(c:Nat)(T B:Int)(w:World)(hT:DTab w)(hq:ChkQ 64 T B):
  Calls Tryz.prog 89 #[.agg #[.slice A 64 c,.int .i64 T,.int .i64 B]] w fun e w'=>e= .returned (.bool true)/\Below w.heap.size w w':=by
 have CK:Hid (∀W,DTab W->Calls Tryz.prog 118 #[.agg #[.slice A 64 c,.int .i64 T,.int .i64 B]] W fun e w'=>e= .returned (.int .i64 0)/\Below W.heap.size W w'):=Lib.hid fun W h=>by
  have:=dcheck_any A 64 c T B W (by decide) h
  rw[show chkQE ((64:Nat):Int) T B=0 from if_pos hq]at this
  exact this
 have HB:=Lib.hid (below_alloc (w:=w) (.cells #[.slice A 64 c,.int .i64 T,.int .i64 B] 81));have HT:=Lib.hid (hT.via HB.out);clear hT hq;go_enter Tryz.func89,Tryz.ntmps89
 go_wp2_with(go_at_call 118;refine(CK.out _ HT.out).mono ?_;rintro e w' ⟨rfl,hb⟩;(have HB':=Lib.hid hb);clear hb)
 go_ret;exact⟨rfl,HB.out.trans (HB'.out.mono HB.out.size)⟩
theorem GngR.crew{w:World}{base m:Nat}{g:Gng}{L:List Int}{a:GAd}(h:GngR w base m g L a)(hm:m<=8)(hl:L.length<=400): ∃AL cL,a.vL= .slice AL L.length cL/\IsC w (some ⟨a.gO,0,none⟩) m a.cO AL L.length cL g.O L:=by
 obtain⟨AL,cL,e,hI⟩:=h.left.slice;refine⟨AL,cL,e,h.ol,rfl,by omega,hl,h.on.ints,hI,(fun q=>by cases q),fun q=> ?_,?_⟩
 ·rcases h.left.2 with ⟨q1,q2⟩ | ⟨b,cp,cur,q1,_⟩
  ·rw [e] at q1
   injection q1 with _ q1 q3;exact⟨q1,q3⟩
  ·rw [e,q] at q1
   injection q1 with q1 _ _;cases q1
 ·obtain ⟨cur,_,_,h1,_⟩:=rowN_block h.onF.1
  exact h1
theorem GOk.chkQ{n:Nat}{E:List (Int×Int)}(h:GOk n m E L g){j:Nat}(hj:j<m):ChkQ 64 (g.T j) (g.B j):=by
 have b1:=(h.dq _ hj).bounds;exact⟨by decide,b1.1,by omega,by omega,by omega⟩
theorem rgang_any{n:Nat}{E:List (Int×Int)}(w:World)(hok:GOk n m E L g)(h:GngR w base m g L ad)(hm:m<=8)(hT:DTab w):
  Calls Tryz.prog 49 #[.agg #[.slice (some ⟨ad.gO,0,none⟩) m ad.cO,ad.vL,.slice (some ⟨ad.gD,0,none⟩) m ad.cD,.slice (some ⟨ad.gT,0,none⟩) m ad.cT,.slice (some ⟨ad.gF,0,none⟩) m ad.cF]] w fun e w'=>e= .returned (.bool true)/\Below w.heap.size w w':=by
 obtain⟨w0,hw0⟩: ∃w0,w0=w.alloc (.cells #[.slice (some ⟨ad.gO,0,none⟩) m ad.cO,ad.vL,.slice (some ⟨ad.gD,0,none⟩) m ad.cD,.slice (some ⟨ad.gT,0,none⟩) m ad.cT,.slice (some ⟨ad.gF,0,none⟩) m ad.cF] 41):=⟨_,rfl⟩;have HB0:Hid (Below w.heap.size w w0):=Lib.hid (by rw[hw0];exact below_alloc _)
 have HR0:Hid (RowV w.heap.size 41 (gangC m ad) w0):=Lib.hid (by rw[hw0];exact RowV.new w _ (gangC m ad))
 have HG0:=Lib.hid (h.below HB0.out);have HT0:=Lib.hid (hT.via HB0.out);have HW0:=Lib.hid hw0;have CQ:Hid (∀(j:Nat) (A:Option Addr) (c:Nat) (W:World),j<m->Below w0.heap.size w0 W->Calls Tryz.prog 89 #[.agg #[.slice A 64 c,.int .i64 (g.T j),.int .i64 (g.B j)]] W fun e w'=>e= .returned (.bool true)/\Below W.heap.size W w'):=Lib.hid fun j A c W hj hb=>rdeque_any A c _ _ W (HT0.out.via hb) (hok.chkQ hj)
 have CT:=Lib.hid (fun(c:Nat) (W:World) (hc:c<m) (hb:Below w0.heap.size w0 W)=>rtaker_any W hc hm (HG0.out.below hb) (hok.fit hc))
 have HSL:Hid (∀j,j<m-> ∃A c,ad.Rv j= .slice A 64 c):=Lib.hid fun j hj=>by
  obtain⟨A,c,hv,_⟩:=(h.ring j hj).slice;rw[hok.rl j hj]at hv;exact⟨A,c,hv⟩
 clear h hw0 hT hok;go_enter Tryz.func49,Tryz.ntmps49;go_upto_region 1 with fail;rw[<-HW0.out];have r0:w0.cell? ⟨w.heap.size,0,none⟩=some (.slice (some ⟨ad.gO,0,none⟩) m ad.cO):=HR0.out.cell rfl
 have r2:w0.cell? ⟨w.heap.size,2,none⟩=some (.slice (some ⟨ad.gD,0,none⟩) m ad.cD):=HR0.out.cell rfl
 have r3:w0.cell? ⟨w.heap.size,3,none⟩=some (.slice (some ⟨ad.gT,0,none⟩) m ad.cT):=HR0.out.cell rfl
 have r4:w0.cell? ⟨w.heap.size,4,none⟩=some (.slice (some ⟨ad.gF,0,none⟩) m ad.cF):=HR0.out.cell rfl
 go_wp2_with fail;clear r0 r2 r3 r4
 go_loopw [32] (fun v wr=> ∃k:Nat,k<=m/\v= .int .i64 k/\Hid (Below w0.heap.size w0 wr)) (fun v _=>m - (intOf v).toNat)
 case atStart=>exact⟨0,Nat.zero_le _,rfl,Lib.hid (Below.refl _ _)⟩
 case round=>
  obtain⟨k,hk,rfl,HB⟩:=hrel
  by_cases hlt:k<m
  ·have G:=HG0.out.below HB.out
   have c0:=G.dq hlt (i:=0) rfl;have c1:=G.dq hlt (i:=1) rfl;have c2:=G.dq hlt (i:=2) rfl;simp only[Nat.add_zero]at c0;obtain⟨A,c,hv⟩:=HSL.out k hlt;rw[hv]at c0;have e3:k * 3=3 * k:=Nat.mul_comm _ _;have HLT:=Lib.hid hlt;have CQ2:=Lib.hid (fun W hb=>CQ.out k A c W hlt hb)
   have CT2:=Lib.hid (fun W hb=>CT.out k W hlt hb)
   clear G hv;go_upto_region 7 with fail;obtain⟨w5,hw5⟩: ∃w5,w5=wr.alloc (.cells #[.slice A 64 c,.int .i64 (g.T k),.int .i64 (g.B k)] 81):=⟨_,rfl⟩;have HBK:Hid (Below w0.heap.size w0 w5):=Lib.hid (HB.out.trans (by rw[hw5];exact(below_alloc _).mono HB.out.size))
   have HD5:Hid (RowV wr.heap.size 81 [.slice A 64 c,.int .i64 (g.T k),.int .i64 (g.B k)] w5):=Lib.hid (by rw[hw5];exact RowV.new wr _ [.slice A 64 c,.int .i64 (g.T k),.int .i64 (g.B k)])
   rw[<-hw5];obtain⟨gd,hgd⟩: ∃gd,gd=wr.heap.size:=⟨_,rfl⟩;rw[<-hgd]at HD5⊢;clear hw5 hgd c0 c1 c2;have d0:w5.cell? ⟨gd,0,none⟩=some (.slice A 64 c):=HD5.out.cell rfl
   have d1:w5.cell? ⟨gd,1,none⟩=some (.int .i64 (g.T k)):=HD5.out.cell rfl
   have d2:w5.cell? ⟨gd,2,none⟩=some (.int .i64 (g.B k)):=HD5.out.cell rfl
   go_wp2_with(first
    |(go_at_call 89;refine(CQ2.out _ HBK.out).mono ?_;rintro e w6 ⟨rfl,hb⟩;(have HB6:Hid (Below w0.heap.size w0 w6):=Lib.hid (HBK.out.trans (hb.mono HBK.out.size)));clear hb;(have R6:=Lib.hid (HR0.out.below HB6.out HR0.out.lt));(have r0:w6.cell? ⟨w.heap.size,0,none⟩=some (.slice (some ⟨ad.gO,0,none⟩) m ad.cO):=R6.out.cell rfl);(have r1:w6.cell? ⟨w.heap.size,1,none⟩=some ad.vL:=R6.out.cell rfl);(have r2:w6.cell? ⟨w.heap.size,2,none⟩=some (.slice (some ⟨ad.gD,0,none⟩) m ad.cD):=R6.out.cell rfl);(have r3:w6.cell? ⟨w.heap.size,3,none⟩=some (.slice (some ⟨ad.gT,0,none⟩) m ad.cT):=R6.out.cell rfl);(have r4:w6.cell? ⟨w.heap.size,4,none⟩=some (.slice (some ⟨ad.gF,0,none⟩) m ad.cF):=R6.out.cell rfl))
    |(go_at_call 90;refine(CT2.out _ HB6.out).mono ?_;rintro e w7 ⟨rfl,hb⟩;(have HB7:Hid (Below w0.heap.size w0 w7):=Lib.hid (HB6.out.trans (hb.mono HB6.out.size)));clear hb))
   go_roundw
   case rel=>exact⟨k+1,by omega,by go_num,HB7⟩
   case measure=>simp[intOf];omega
  ·obtain rfl: m = k:=by omega
   go_wp2;go_ret
   exact⟨rfl,HB0.out.trans (HB.out.mono HB0.out.size)⟩
theorem gcheck_any{n:Nat}{E:List (Int×Int)}{W:List Int}{AW FE:Option Addr}{nW cW mE dE:Nat}(w:World)(hok:GOk n m E L g)(h:GngR w base m g L ad)(hm:m<=8)(hT:DTab w)(hg:IsG w AW nW cW FE mE dE W E)(hM:May W E)(hn:W.length=n):
  Calls Tryz.prog 23 #[.agg #[.slice AW nW cW,.slice FE mE dE],.agg #[.slice (some ⟨ad.gO,0,none⟩) m ad.cO,ad.vL,.slice (some ⟨ad.gD,0,none⟩) m ad.cD,.slice (some ⟨ad.gT,0,none⟩) m ad.cT,.slice (some ⟨ad.gF,0,none⟩) m ad.cF]] w fun e w'=>e= .returned (.int .i64 0)/\Below w.heap.size w w':=by
 obtain⟨w1,hw1⟩: ∃w1,w1=(w.alloc (.cells #[.slice AW nW cW,.slice FE mE dE] 25)).alloc (.cells #[.slice (some ⟨ad.gO,0,none⟩) m ad.cO,ad.vL,.slice (some ⟨ad.gD,0,none⟩) m ad.cD,.slice (some ⟨ad.gT,0,none⟩) m ad.cT,.slice (some ⟨ad.gF,0,none⟩) m ad.cF] 41):=⟨_,rfl⟩;have hb1:Below w.heap.size w w1:=by rw[hw1];exact((Below.refl _ _).alloc (Nat.le_refl _) _).alloc (by simp) _
 have HB1:=Lib.hid hb1;have HD1:Hid (RowV w.heap.size 25 [.slice AW nW cW,.slice FE mE dE] w1):=Lib.hid (by rw[hw1];exact(RowV.new w _ [.slice AW nW cW,.slice FE mE dE]).alloc _)
 have HR1:Hid (RowV (w.heap.size+1) 41 (gangC m ad) w1):=Lib.hid (by
  rw[hw1];have:=RowV.new (w.alloc (.cells #[.slice AW nW cW,.slice FE mE dE] 25)) 41 (gangC m ad)
  simpa[gangC,GAd.vO,GAd.vD,GAd.vT,GAd.vF]using this)
 have hG1:=h.below hb1;have hT1:=hT.via hb1;have hl:L.length<=400:=by have:=hok.crew.ln;have:=hok.n64;omega
 obtain⟨AL,cL,hvL,hC⟩:=hG1.crew hm hl;have hz:crewE W E g.O L=0:=crewE_zero.mpr ⟨hM,by rw[hn];exact hok.crew⟩
 have CC:Hid (Calls Tryz.prog 48 #[.agg #[.slice AW nW cW,.slice FE mE dE],.agg #[.slice (some ⟨ad.gO,0,none⟩) m ad.cO,ad.vL]] w1 fun e w'=>e= .returned (.int .i64 0)/\Below w1.heap.size w1 w'):=Lib.hid (by
  have:=ccheck_any w1 (hg.below hb1) hC;rw[hz,<-hvL]at this;exact this)
 have CG:=Lib.hid (fun(W:World) (hb:Below w1.heap.size w1 W)=>rgang_any W hok (hG1.below hb) hm (hT1.via hb))
 have HW1:=Lib.hid hw1;clear h hT hg hM hn hok hG1 hT1 hC hz hvL hw1 hb1;go_enter Tryz.func23,Tryz.ntmps23;go_upto_region 1 with fail;rw[<-HW1.out];have p0:w1.cell? ⟨w.heap.size,0,none⟩=some (.slice AW nW cW):=HD1.out.cell rfl
 have p1:w1.cell? ⟨w.heap.size,1,none⟩=some (.slice FE mE dE):=HD1.out.cell rfl
 have r0:w1.cell? ⟨w.heap.size+1,0,none⟩=some (.slice (some ⟨ad.gO,0,none⟩) m ad.cO):=HR1.out.cell rfl
 have r1:w1.cell? ⟨w.heap.size+1,1,none⟩=some ad.vL:=HR1.out.cell rfl
 go_wp2_with(first
  |(go_at_call 48;refine CC.out.mono ?_;rintro e w2 ⟨rfl,hb⟩;(have HB2:=Lib.hid hb);clear hb p0 p1 r0 r1;(have R2:=Lib.hid (HR1.out.below HB2.out HR1.out.lt));(have r0:w2.cell? ⟨w.heap.size+1,0,none⟩=some (.slice (some ⟨ad.gO,0,none⟩) m ad.cO):=R2.out.cell rfl);(have r1:w2.cell? ⟨w.heap.size+1,1,none⟩=some ad.vL:=R2.out.cell rfl);(have r2:w2.cell? ⟨w.heap.size+1,2,none⟩=some (.slice (some ⟨ad.gD,0,none⟩) m ad.cD):=R2.out.cell rfl);(have r3:w2.cell? ⟨w.heap.size+1,3,none⟩=some (.slice (some ⟨ad.gT,0,none⟩) m ad.cT):=R2.out.cell rfl);(have r4:w2.cell? ⟨w.heap.size+1,4,none⟩=some (.slice (some ⟨ad.gF,0,none⟩) m ad.cF):=R2.out.cell rfl))
  |(go_at_call 49;refine(CG.out _ HB2.out).mono ?_;rintro e w3 ⟨rfl,hb⟩;(have HB3:=Lib.hid hb);clear hb))
 go_ret;exact⟨rfl,HB1.out.trans ((HB2.out.trans (HB3.out.mono HB2.out.size)).mono HB1.out.size)⟩
end
section
variable {base m: Nat} {g: Gng} {L: List Int} {ad: GAd}
theorem vis_clo(v:Value)(T B:Int)(w:World):Calls Tryz.prog 84 #[.agg #[v,.int .i64 T,.int .i64 B]] w fun e w'=>e= .returned (.bool (decide (T<B)))/\Below w.heap.size w w':=by
 go_enter Tryz.func84,Tryz.ntmps84;go_wp2_with fail
 all_goals
  go_ret;exact⟨rfl,below_alloc _⟩
theorem idxD_any(w:World)(h:GngR w base m g L ad)(hm:m<=8):
  Calls Tryz.prog 115 #[.slice (some ⟨ad.gD,0,none⟩) m ad.cD,.func (.func 84) #[] #[]] w fun e w'=> ∃r:Int,e= .returned (.int .i64 r)/\(0<=r↔visG m g)/\Below w.heap.size w w':=by
 have H:=Lib.hid h;clear h;go_enter Tryz.func115,Tryz.ntmps115;go_wp2;go_loopw [8] (fun v wr=> ∃k:Nat,k<=m/\v= .int .i64 k/\Hid (Below w.heap.size w wr)/\Hid (∀j,j<k-> ¬g.T j<g.B j)) (fun v _=>m - (intOf v).toNat)
 case atStart=>exact⟨0,Nat.zero_le _,rfl,Lib.hid (Below.refl _ _),Lib.hid (fun j hj=>absurd hj (Nat.not_lt_zero _))⟩
 case round=>
  obtain⟨k,hk,rfl,HI,HF⟩:=hrel
  by_cases hlt:k<m
  ·have G:=H.out.below HI.out
   have c0:=G.dq hlt (i:=0) rfl;have c1:=G.dq hlt (i:=1) rfl;have c2:=G.dq hlt (i:=2) rfl;simp only[Nat.add_zero]at c0;have e3:k * 3=3 * k:=Nat.mul_comm _ _;have CV:=Lib.hid (vis_clo (ad.Rv k) (g.T k) (g.B k) wr);clear G
   by_cases hq:g.T k<g.B k
   ·rw [decide_eq_true hq] at CV
    go_wp2_with fail;refine CV.out.mono ?_
    rintro e w' ⟨rfl,hb'⟩;have HB:=Lib.hid hb';clear hb' CV;go_wp2;go_ret;exact⟨_,rfl,⟨fun _=>⟨k,hlt,hq⟩,fun _=>by omega⟩,HI.out.trans (HB.out.mono HI.out.size)⟩
   ·rw [decide_eq_false hq] at CV
    go_wp2_with fail;refine CV.out.mono ?_
    rintro e w' ⟨rfl,hb'⟩;have HB:=Lib.hid hb';clear hb' CV;go_wp2_with fail;go_roundw
    case rel=>exact⟨k+1,by omega,by go_num,Lib.hid (HI.out.trans (HB.out.mono HI.out.size)),Lib.hid (fun j hj=>by
     by_cases e:j=k
     ·rw[e];omega
     ·have:=HF.out j (by omega);omega)⟩
    case measure=>simp[intOf];omega
  ·have e: k = m:=by omega
   subst e;go_wp2;go_ret;exact⟨_,rfl,⟨fun h=>absurd h (by decide),fun⟨j,hj,hv⟩=>absurd hv (by have:=HF.out j hj;omega)⟩,HI.out⟩
theorem hasD_any(w:World)(h:GngR w base m g L ad)(hm:m<=8):
  Calls Tryz.prog 83 #[.slice (some ⟨ad.gD,0,none⟩) m ad.cD,.func (.func 84) #[] #[]] w fun e w'=>e= .returned (.bool (decide (visG m g)))/\Below w.heap.size w w':=by
 have CI:=Lib.hid (idxD_any w h hm);obtain⟨vs,hvs⟩: ∃vs,vs=decide (visG m g):=⟨_,rfl⟩;rw[<-hvs];have HVS:=Lib.hid hvs;clear h hvs;go_enter Tryz.func83,Tryz.ntmps83;go_wp2_with fail;refine CI.out.mono ?_
 rintro e w1 ⟨r,rfl,hr,hb⟩;have HB:=Lib.hid hb;have HR:=Lib.hid hr;clear hr hb CI
 by_cases h0:0<=r
 ·have d1: decide (0 <= r) = true:=decide_eq_true h0
  obtain rfl:vs=true:=by rw[HVS.out];exact decide_eq_true (HR.out.mp h0)
  go_wp2;go_ret
  exact⟨rfl,HB.out⟩
 ·have d1: decide (0 <= r) = false:=decide_eq_false h0
  obtain rfl:vs=false:=by rw[HVS.out];exact decide_eq_false fun q=>h0 (HR.out.mpr q)
  go_wp2;go_ret
  exact⟨rfl,HB.out⟩
def wantK(m:Nat)(g:Gng)(k:Nat):List Nat:=(List.range k).filter fun c=>decide (g.O.getD c 0= -1/\((g.tk c).at_≠0\/visG m g))
theorem wantK_succ(m:Nat)(g:Gng)(k:Nat):wantK m g (k+1)=if g.O.getD k 0= -1/\((g.tk k).at_≠0\/visG m g)then wantK m g k++ [k]else wantK m g k:=by
 unfold wantK;rw[List.range_succ,List.filter_append]
 by_cases h:g.O.getD k 0= -1/\((g.tk k).at_≠0\/visG m g)
 ·rw[if_pos h,List.filter_cons,if_pos (decide_eq_true h)];rfl
 ·rw[if_neg h,List.filter_cons,if_neg (by rw[decide_eq_false h];decide)];exact List.append_nil _
theorem wants_any(w:World)(h:GngR w base m g L ad)(hm:m<=8):
  Calls Tryz.prog 46 #[.agg #[.slice (some ⟨ad.gO,0,none⟩) m ad.cO,ad.vL,.slice (some ⟨ad.gD,0,none⟩) m ad.cD,.slice (some ⟨ad.gT,0,none⟩) m ad.cT,.slice (some ⟨ad.gF,0,none⟩) m ad.cF]] w (GotOwn (nums (wantsG m g)) w):=by
 obtain⟨w0,hw0⟩: ∃w0,w0=w.alloc (.cells #[.slice (some ⟨ad.gO,0,none⟩) m ad.cO,ad.vL,.slice (some ⟨ad.gD,0,none⟩) m ad.cD,.slice (some ⟨ad.gT,0,none⟩) m ad.cT,.slice (some ⟨ad.gF,0,none⟩) m ad.cF] 41):=⟨_,rfl⟩;have HB0:Hid (Below w.heap.size w w0):=Lib.hid (by rw[hw0];exact below_alloc _)
 have HR0:Hid (RowV w.heap.size 41 (gangC m ad) w0):=Lib.hid (by rw[hw0];exact RowV.new w _ (gangC m ad))
 have HG0:=Lib.hid (h.below HB0.out);have HW0:=Lib.hid hw0;have CH:=Lib.hid (hasD_any w0 HG0.out hm);obtain⟨vs,hvs⟩: ∃vs,vs=decide (visG m g):=⟨_,rfl⟩;rw[<-hvs]at CH;have HVS:=Lib.hid hvs;clear h hw0 hvs;go_enter Tryz.func46,Tryz.ntmps46;go_wp2_with fail;rw[<-HW0.out];refine CH.out.mono ?_
 rintro e w1 ⟨rfl,hb⟩;have HB1:=Lib.hid (HB0.out.trans (hb.mono HB0.out.size));have HR1:=Lib.hid (HR0.out.below hb HR0.out.lt);have HG1:=Lib.hid (HG0.out.below hb);clear hb CH HB0 HR0 HG0 HW0;have r0:w1.cell? ⟨w.heap.size,0,none⟩=some (.slice (some ⟨ad.gO,0,none⟩) m ad.cO):=HR1.out.cell rfl
 go_wp2_with fail;clear r0
 go_loopw [4,14] (fun v i wr=> ∃(k q:Nat) (A1:Option Addr) (c1:Nat),k<=m/\q<=k/\i= .int .i64 k/\v= .slice A1 q c1/\Hid (q=(nums (wantK m g k)).length)/\Hid (OwnI wr w1.heap.size v (nums (wantK m g k)))/\Hid (Below w1.heap.size w1 wr)) (fun _ i _=>m - (intOf i).toNat)
 case atStart=>exact⟨0,0,none,0,Nat.zero_le _,Nat.le_refl _,rfl,rfl,Lib.hid rfl,Lib.hid ⟨rfl,.inl ⟨rfl,rfl⟩⟩,Lib.hid (Below.refl _ _)⟩
 case round=>
  obtain⟨k,q,A1,c1,hk,hqk,rfl,rfl,HQ,HO,HB⟩:=hrel
  by_cases hlt:k<m
  ·have HR:=Lib.hid (HR1.out.below HB.out HR1.out.lt)
   have HG:=Lib.hid (HG1.out.below HB.out);have HSZ:=Lib.hid HB.out.size;have r0:wr.cell? ⟨w.heap.size,0,none⟩=some (.slice (some ⟨ad.gO,0,none⟩) m ad.cO):=HR.out.cell rfl
   have r3:wr.cell? ⟨w.heap.size,3,none⟩=some (.slice (some ⟨ad.gT,0,none⟩) m ad.cT):=HR.out.cell rfl
   have o0:=HG.out.onc hlt;have t1:=HG.out.tk hlt (i:=1) rfl;have hn: ¬((m:Int)<=(k:Int)):=by omega
   have e6:k * 6=6 * k:=Nat.mul_comm _ _;obtain⟨x,hx⟩: ∃x,x=g.O.getD k 0:=⟨_,rfl⟩;obtain⟨y,hy⟩: ∃y,y=(g.tk k).at_:=⟨_,rfl⟩;rw[<-hx]at o0;have HS:=Lib.hid (wantK_succ m g k);have t1':wr.cell? ⟨ad.gT,6 * k+1,none⟩=some (.int .i64 y):=by rw[hy];exact t1
   clear t1;have HX:=Lib.hid hx;have HY:=Lib.hid hy
   by_cases hr:g.O.getD k 0= -1/\((g.tk k).at_≠0\/visG m g)
   ·have HN: Hid (nums (wantK m g (k + 1)) = nums (wantK m g k) ++ [(k: Int)]):=Lib.hid (by rw [HS.out,if_pos hr,nums_snoc])
    have d1:(x== -1)=true:=by rw[hx,hr.1];rfl
    by_cases hvis:visG m g
    ·obtain rfl: vs = true:=by rw [HVS.out]; exact decide_eq_true hvis
     clear HS hr hx hy
     go_wp2_with(at_builtin;refine wpList_push rfl _ _ rfl wr w1.heap.size _ (nums (wantK m g k)) (k:Int) q HQ.out.symm (by omega) HO.out HSZ.out rfl rfl ?_;intro A2 c2 w3 HO3 HB3;(have HO3':=Lib.hid HO3);(have HB3':=Lib.hid HB3);clear HO3 HB3)
     go_roundw
     case rel=>exact⟨k+1,q+1,A2,c2,by omega,by omega,by go_num,rfl,Lib.hid (by rw[HN.out,List.length_append,<-HQ.out];rfl),Lib.hid (by rw[HN.out];exact HO3'.out),Lib.hid (HB.out.trans HB3'.out)⟩
     case measure=>simp[intOf];omega
    ·obtain rfl: vs = false:=by rw [HVS.out]; exact decide_eq_false hvis
     have d2:(y !=0)=true:=by rw[hy];simpa using hr.2.resolve_right hvis
     clear HS hr hx hy
     go_wp2_with(at_builtin;refine wpList_push rfl _ _ rfl wr w1.heap.size _ (nums (wantK m g k)) (k:Int) q HQ.out.symm (by omega) HO.out HSZ.out rfl rfl ?_;intro A2 c2 w3 HO3 HB3;(have HO3':=Lib.hid HO3);(have HB3':=Lib.hid HB3);clear HO3 HB3)
     go_roundw
     case rel=>exact⟨k+1,q+1,A2,c2,by omega,by omega,by go_num,rfl,Lib.hid (by rw[HN.out,List.length_append,<-HQ.out];rfl),Lib.hid (by rw[HN.out];exact HO3'.out),Lib.hid (HB.out.trans HB3'.out)⟩
     case measure=>simp[intOf];omega
   ·have HN: Hid (nums (wantK m g (k + 1)) = nums (wantK m g k)):=Lib.hid (by rw [HS.out,if_neg hr])
    by_cases hid:x= -1
    ·have d1: (x == -1) = true:=by rw [hid]; rfl
     have hnv: ¬visG m g:=fun q=>hr ⟨by rw[<-hx];exact hid,.inr q⟩
     obtain rfl:vs=false:=by rw[HVS.out];exact decide_eq_false hnv
     have d2:(y !=0)=false:=by
      have:y=0:=Classical.byContradiction fun q=>hr ⟨by rw[<-hx];exact hid,.inl (by rw[<-hy];exact q)⟩
      rw[this];rfl
     clear HS hr hx hy;go_wp2_with fail;go_roundw
     case rel=>exact⟨k+1,q,A1,c1,by omega,by omega,by go_num,rfl,Lib.hid (by rw[HN.out,HQ.out]),Lib.hid (by rw[HN.out];exact HO.out),HB⟩
     case measure=>simp[intOf];omega
    ·have d1: (x == -1) = false:=by simpa using hid
     clear HS hr hx hy;go_wp2_with fail;go_roundw
     case rel=>exact⟨k+1,q,A1,c1,by omega,by omega,by go_num,rfl,Lib.hid (by rw[HN.out,HQ.out]),Lib.hid (by rw[HN.out];exact HO.out),HB⟩
     case measure=>simp[intOf];omega
  ·obtain rfl: m = k:=by omega
   go_wp2;go_ret
   exact⟨A1,c1,by rw[show wantsG m g=wantK m g m from rfl,<-HQ.out];rfl,by rw[show wantsG m g=wantK m g m from rfl,<-HQ.out];exact HO.out.down HB1.out.size,HB1.out.trans (HB.out.mono HB1.out.size)⟩
end
theorem above_clo(z last:Int)(gb:Nat)(w:World)(hb:RowV gb 3 [.int .i64 last] w):Calls Tryz.prog 98 #[.int .i64 z,.pointer (some ⟨gb,0,none⟩)] w fun e w'=>e= .returned (.bool (decide (last<z)))/\w'=w:=by
 have h0:=hb.cell (j:=0) rfl;clear hb;go_enter Tryz.func98,Tryz.ntmps98;go_wp2_with fail
 all_goals
  go_ret;exact⟨rfl,rfl⟩
def IdxAb(zs:List Int)(last r:Int):Prop:=(∃(j:Nat) (z:Int),r=j/\zs[j]? =some z/\last<z/\ ∀(i:Nat) (y:Int),i<j->zs[i]? =some y->y<=last)\/(r= -1/\ ∀(i:Nat) (y:Int),zs[i]? =some y->y<=last)
theorem idxAb_any(A:Option Addr)(c n:Nat)(zs:List Int)(last:Int)(gb:Nat)(w:World)(hn:zs.length=n)(hl:n<=1000)(hI:Ints w w.heap.size A zs)(hb:RowV gb 3 [.int .i64 last] w):
  Calls Tryz.prog 63 #[.slice A n c,.func (.func 98) #[] #[.pointer (some ⟨gb,0,none⟩)]] w fun e w'=>
   ∃r:Int,e= .returned (.int .i64 r)/\IdxAb zs last r/\w'=w:=by
 have HI:=Lib.hid hI;have HN:=Lib.hid hn;have HB:=Lib.hid hb;clear hI hn hb;go_enter Tryz.func63,Tryz.ntmps63;go_wp2;go_loopw [8] (fun v wr=> ∃k:Nat,k<=n/\v= .int .i64 k/\w=wr/\Hid (∀(i:Nat) (y:Int),i<k->zs[i]? =some y->y<=last)) (fun v _=>n - (intOf v).toNat)
 case atStart=>exact⟨0,Nat.zero_le _,rfl,rfl,Lib.hid (fun i y hi=>absurd hi (Nat.not_lt_zero _))⟩
 case round=>
  obtain⟨k,hk,rfl,rfl,HF⟩:=hrel
  by_cases hlt:k<n
  ·obtain ⟨bb,off,z,hA0,hbb,hx,hcc⟩:=HI.out.at_ (k:=k) (by rw [HN.out]; exact hlt)
   subst hA0;have HX:=Lib.hid hx;have CV:=Lib.hid (above_clo z last gb w HB.out);clear hx
   by_cases hq:last<z
   ·rw [decide_eq_true hq] at CV
    go_wp2_with fail;refine CV.out.mono ?_
    rintro e w' ⟨rfl,rfl⟩;clear CV;go_wp2;go_ret;exact⟨_,rfl,.inl ⟨k,z,rfl,HX.out,hq,HF.out⟩,by first|rfl|trivial⟩
   ·rw [decide_eq_false hq] at CV
    go_wp2_with fail;refine CV.out.mono ?_
    rintro e w' ⟨rfl,rfl⟩;clear CV;go_wp2_with fail;go_roundw
    case rel=>exact⟨k+1,by omega,by go_num,by first|rfl|trivial,Lib.hid (fun i y hi hy=>by
     by_cases e:i=k
     ·subst e
      have:=HX.out.symm.trans hy;injection this with this;omega
     ·exact HF.out i y (by omega) hy)⟩
    case measure=>simp[intOf];omega
  ·have e: k = n:=by omega
   subst e;go_wp2;go_ret;exact⟨_,rfl,.inr ⟨rfl,fun i y hy=>HF.out i y (by have:=(List.getElem?_eq_some_iff.mp hy).1;rw[HN.out]at this;exact this) hy⟩,rfl⟩
theorem above_at{l:List Nat}{last:Int}{j z:Nat}(hj:l[j]? =some z)(hz:last<(z:Int))(hf: ∀(i y:Nat),i<j->l[i]? =some y->(y:Int)<=last):aboveG l last=z:=by
  unfold aboveG;have:l.find? (fun(c:Nat)=>decide (last<(c:Int)))=some z:=by
    induction l generalizing j with
    |nil=>simp at hj
    | cons x r ih =>
      cases j with
      | zero =>
        have hx:x=z:=by simpa using hj
        rw[hx,List.find?_cons,decide_eq_true hz]
      | succ j =>
        have h0:=hf 0 x (by omega) (by simp)
        rw[List.find?_cons,decide_eq_false (by omega)]
        exact ih (by simpa using hj) fun i y hi hy=>hf (i+1) y (by omega) (by simpa using hy)
  rw[this];rfl
theorem above_none{l:List Nat}{last:Int}(hf: ∀(i y:Nat),l[i]? =some y->(y:Int)<=last):aboveG l last=l.getD 0 0:=by
 unfold aboveG;have:l.find? (fun(c:Nat)=>decide (last<(c:Int)))=none:=by
  rw[List.find?_eq_none]
  intro x hx;obtain⟨i,hi,he⟩:=List.getElem_of_mem hx;have:=hf i x (by rw[List.getElem?_eq_getElem hi,he])
  rw[decide_eq_false (by omega)];decide
 rw[this];rfl
theorem nums_at{l:List Nat}{i z:Nat}(h:l[i]? =some z):(nums l)[i]? =some (z:Int):=by
 unfold nums;rw[List.getElem?_map,h];rfl
theorem nums_got{l:List Nat}{i:Nat}{z:Int}(h:(nums l)[i]? =some z): ∃y:Nat,l[i]? =some y/\z=y:=by
 unfold nums at h;rw[List.getElem?_map]at h
 cases hq:l[i]? with
 |none=>rw[hq]at h;cases h
 |some y=>rw[hq]at h;exact⟨y,rfl,(Option.some.inj h).symm⟩
theorem above_any(A:Option Addr)(c k:Nat)(l:List Nat)(last:Int)(w:World)(hk:l.length=k)(hl:k<=1000)(h0:l≠ [])(hI:Ints w w.heap.size A (nums l)):
  Calls Tryz.prog 64 #[.slice A k c,.int .i64 last] w fun e w'=>e= .returned (.int .i64 (aboveG l last:Nat))/\Below w.heap.size w w':=by
 obtain⟨w0,hw0⟩: ∃w0,w0=w.alloc (.cells #[.int .i64 last] 3):=⟨_,rfl⟩;have hb0:Below w.heap.size w w0:=by rw[hw0];exact below_alloc _
 have HR:=Lib.hid (show RowV w.heap.size 3 [.int .i64 last] w0 by rw[hw0];exact RowV.new w 3 [.int .i64 last])
 have HI:=Lib.hid ((hI.below hb0).more hb0.size);have CI:=Lib.hid (idxAb_any A c k (nums l) last w.heap.size w0 (by rw[nums_length,hk]) hl HI.out HR.out)
 have HB0:=Lib.hid hb0;have HW:=Lib.hid hw0;have HK:=Lib.hid hk;obtain⟨v,hv⟩: ∃v,v=aboveG l last:=⟨_,rfl⟩;rw[<-hv];have HV:=Lib.hid hv;have hk0:0<k:=by rw[<-hk];exact List.length_pos_iff.mpr h0
 clear hI hb0 hw0 hv hk;go_enter Tryz.func64,Tryz.ntmps64;go_wp2_with fail;rw[<-HW.out];refine CI.out.mono ?_
 rintro e w1 ⟨r,rfl,hr,rfl⟩;clear CI;unfold IdxAb at hr;rcases hr with⟨j,z,rfl,h1,h2,h3⟩|⟨rfl,h3⟩
 ·obtain ⟨y,hy,rfl⟩:=nums_got h1
  have hv:v=y:=HV.out.trans (above_at hy h2 fun i q hi hq=>h3 i _ hi (nums_at hq))
  have hjk:j<k:=by rw[<-HK.out];exact(List.getElem?_eq_some_iff.mp hy).1
  obtain⟨bb,off,z,hA0,hbb,hx,hcc⟩:=HI.out.at_ (k:=j) (by rw[nums_length,HK.out];exact hjk)
  obtain rfl:z=(v:Int):=by
   rw[nums_at hy]at hx;rw[hv];exact(Option.some.inj hx).symm
  subst hA0;have hn: ¬((k:Int)<=(j:Int)):=by omega
  clear h1 h2 h3 hx hy hv;go_wp2;go_ret;exact⟨rfl,HB0.out⟩
 ·have hlt: 0 < l.length:=by rw [HK.out]; exact hk0
  have hy:l[0]? =some (l.getD 0 0):=by rw[List.getD_eq_getElem?_getD,List.getElem?_eq_getElem hlt];rfl
  have hv:v=l.getD 0 0:=HV.out.trans (above_none fun i q hq=>h3 i _ (nums_at hq))
  obtain⟨bb,off,z,hA0,hbb,hx,hcc⟩:=HI.out.at_ (k:=0) (by rw[nums_length,HK.out];exact hk0)
  obtain rfl:z=(v:Int):=by
   rw[nums_at hy]at hx;rw[hv];exact(Option.some.inj hx).symm
  subst hA0;simp only[Nat.add_zero]at hcc;have hn: ¬((k:Int)<=0):=by omega
  have hn': ¬k=0:=by omega
  have hcd:w1.cell? ⟨bb,off+(max (-1:Int) 0).toNat,none⟩=some (.int .i64 (v:Int)):=hcc
  clear h3 hx hy hv;go_wp2;go_ret;exact⟨rfl,HB0.out⟩
end Go.Proofs.YtngdbbligebcbabGreatDoor
