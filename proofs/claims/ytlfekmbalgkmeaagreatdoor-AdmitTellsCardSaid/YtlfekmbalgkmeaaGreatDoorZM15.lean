import Derived.Test.YtlfekmbalgkmeaaGreatDoorZM14
import Derived.Test.YtlfekmbalgkmeaaGreatDoorZM2
import Derived.Test.YtlfekmbalgkmeaaGreatDoorZM8
import Derived.Test.YtlfekmbalgkmeaaGreatDoorZM6
import Derived.Deep.AppendLies
set_option linter.unusedSimpArgs false
set_option linter.unnecessarySimpa false
set_option linter.unusedVariables false
set_option maxRecDepth 100000
set_option maxHeartbeats 8000000
namespace Go.Proofs.YtlfekmbalgkmeaaGreatDoor
open Go.RowKit
@[reducible] def Sh.arg (s:Sh) (p q:Int):Value:=.agg #[.int .i64 p,.int .i64 q,.slice s.P s.np s.pc,.slice s.E s.ne s.ec,.slice s.F s.nf s.fc,.slice s.R s.nr s.rc]
def ManyT(T:Task):Prop:=T.parts.length<1\/16<T.parts.length\/48<T.edges.length\/16<T.futures.length\/4<T.bars.length
open Classical in
noncomputable def chkT (T:Task):Int:=
 if ManyT T then 50 else if timeE T.period T.deadline=false then 51 else if¬partsOk T.parts then 52 else if¬EdgesOk T.parts.length T.edges then 53 else if¬FutsOk T.parts T.futures then 54 else if¬BarsOk T.parts.length T.bars then 55 else 0
structure MayT(T:Task):Prop where
 few: ¬ManyT T
 time:timeE T.period T.deadline=true
 parts:partsOk T.parts
 edges:EdgesOk T.parts.length T.edges
 futures:FutsOk T.parts T.futures
 bars:BarsOk T.parts.length T.bars
theorem chkT_zero{T:Task}:chkT T=0↔MayT T:=by
 unfold chkT;constructor
 ·intro h
  split at h
  ·cases h
  ·rename_i h0
   split at h
   ·cases h
   ·rename_i h1
    split at h
    ·cases h
    ·rename_i h2
     split at h
     ·cases h
     ·rename_i h3
      split at h
      ·cases h
      ·rename_i h4
       split at h
       ·cases h
       ·rename_i h5
        exact⟨h0,by simpa using h1,Classical.not_not.mp h2,Classical.not_not.mp h3,Classical.not_not.mp h4,Classical.not_not.mp h5⟩
 ·rintro ⟨h0,h1,h2,h3,h4,h5⟩
  rw[if_neg h0,if_neg (by rw[h1];exact fun k=>Bool.noConfusion k),if_neg (fun k=>k h2),if_neg (fun k=>k h3),if_neg (fun k=>k h4),if_neg (fun k=>k h5)]
structure FewT(T:Task):Prop where
 np:T.parts.length<=400
 ne:T.edges.length<=400
 nf:T.futures.length<=400
 nr:T.bars.length<=400
 bars: ∀b∈T.bars,b.1.length<=400/\b.2.length<=400
structure BxTd(w:World)(p q:Int)(P:Option Addr)(np pc:Nat)(E:Option Addr)(ne ec:Nat)(F:Option Addr)(nf fc:Nat)(R:Option Addr)(nr rc:Nat)(T:Task)(w':World):Prop where
 b:BxD w p q P np pc E ne ec F nf fc R nr rc w'
 t:IsT w' w'.heap.size ⟨P,np,pc,E,ne,ec,F,nf,fc,R,nr,rc⟩ T
section
variable {P: Option Addr} {np pc: Nat} {E: Option Addr} {ne ec: Nat} {F: Option Addr} {nf fc: Nat} {R: Option Addr} {nr rc: Nat} {p q: Int} {T: Task}
theorem BxTd.next{w w1 w2:World}(h:BxTd w p q P np pc E ne ec F nf fc R nr rc T w1)(hb:Below w1.heap.size w1 w2):BxTd w p q P np pc E ne ec F nf fc R nr rc T w2:=⟨h.b.next hb,(h.t.below hb).more hb.size⟩
theorem BxTd.start{w:World}(h:IsT w w.heap.size ⟨P,np,pc,E,ne,ec,F,nf,fc,R,nr,rc⟩ T)(p q:Int):BxTd w p q P np pc E ne ec F nf fc R nr rc T (w.alloc (.cells #[.int .i64 p,.int .i64 q,.slice P np pc,.slice E ne ec,.slice F nf fc,.slice R nr rc] 57)):=
 ⟨BxD.start w p q P np pc E ne ec F nf fc R nr rc,(h.below (below_alloc _)).more (by simp)⟩
end
theorem tcheck_any(s:Sh)(T:Task)(w:World)(hF:FewT T)(hT:IsT w w.heap.size s T):
    Calls Tryz.prog 95 #[s.arg T.period T.deadline] w fun e w'=>e= .returned (.int .i64 (chkT T))/\Below w.heap.size w w':=by
  obtain⟨P,np,pc,E,ne,ec,F,nf,fc,R,nr,rc⟩:=s;obtain⟨p,q,ps,es,fs,bs⟩:=T;have B0:=Lib.hid (BxTd.start hT p q);have HT:=Lib.hid hT;have hp:=hT.hp;have he:=hT.he;have hf:=hT.hf;have hr:=hT.hr;have hFp:=hF.np;have hFe:=hF.ne;have hFf:=hF.nf;have hFr:=hF.nr;simp only at hp he hf hr hFp hFe hFf hFr;have HFB:=Lib.hid hF.bars;have HP:=Lib.hid hp;have HE:=Lib.hid he;have HFL:=Lib.hid hf;have HRL:=Lib.hid hr;rw[hp]at hFp;rw[he]at hFe;rw[hf]at hFf;rw[hr]at hFr;simp only[Sh.arg];have HMANY:=Lib.hid (show ManyT ⟨p,q,ps,es,fs,bs⟩↔(np<1\/16<np\/48<ne\/16<nf\/4<nr) by unfold ManyT;simp only;rw[hp,he,hf,hr])
  have C1:=Lib.hid (fun W'=>dtime_any (P:=P) (np:=np) (pc:=pc) (E:=E) (ne:=ne) (ec:=ec) (F:=F) (nf:=nf) (fc:=fc) (R:=R) (nr:=nr) (rc:=rc) (p:=p) (q:=q) W')
  have C2:=Lib.hid (fun(W':World) (h:IsT W' W'.heap.size ⟨P,np,pc,E,ne,ec,F,nf,fc,R,nr,rc⟩ ⟨p,q,ps,es,fs,bs⟩)=>dparts_any (P:=P) (np:=np) (pc:=pc) (E:=E) (ne:=ne) (ec:=ec) (F:=F) (nf:=nf) (fc:=fc) (R:=R) (nr:=nr) (rc:=rc) (p:=p) (q:=q) ps W' hp (by omega) h.parts)
  have C3:=Lib.hid (fun(r:Bool) (hr:r=true↔EdgesOk np es) (W':World) (h:IsT W' W'.heap.size ⟨P,np,pc,E,ne,ec,F,nf,fc,R,nr,rc⟩ ⟨p,q,ps,es,fs,bs⟩)=>dedges_any (P:=P) (np:=np) (pc:=pc) (E:=E) (ne:=ne) (ec:=ec) (F:=F) (nf:=nf) (fc:=fc) (R:=R) (nr:=nr) (rc:=rc) (p:=p) (q:=q) es r hr W' he (by omega) h.edges)
  have C4:=Lib.hid (fun(r:Bool) (hr:r=true↔FutsOk ps fs) (W':World) (h:IsT W' W'.heap.size ⟨P,np,pc,E,ne,ec,F,nf,fc,R,nr,rc⟩ ⟨p,q,ps,es,fs,bs⟩)=>dfutures_any (P:=P) (np:=np) (pc:=pc) (E:=E) (ne:=ne) (ec:=ec) (F:=F) (nf:=nf) (fc:=fc) (R:=R) (nr:=nr) (rc:=rc) (p:=p) (q:=q) ps fs r hr W' hp (by omega) hf (by omega) h.parts h.futures)
  have C5:=Lib.hid (fun(r:Bool) (hr':r=true↔BarsOk np bs) (W':World) (h:IsT W' W'.heap.size ⟨P,np,pc,E,ne,ec,F,nf,fc,R,nr,rc⟩ ⟨p,q,ps,es,fs,bs⟩)=>dbars_any (P:=P) (np:=np) (pc:=pc) (E:=E) (ne:=ne) (ec:=ec) (F:=F) (nf:=nf) (fc:=fc) (R:=R) (nr:=nr) (rc:=rc) (p:=p) (q:=q) bs r hr' W' hr (by omega) (fun b hb=>by have:=HFB.out b hb;omega) h.bars)
  obtain⟨r,hres⟩: ∃r,r=chkT ⟨p,q,ps,es,fs,bs⟩:=⟨_,rfl⟩;rw[<-hres];have HRES:=Lib.hid hres;clear hT hF hp he hf hr hres
  by_cases hmany:np<1\/16<np\/48<ne\/16<nf\/4<nr
  · have HX:=Lib.hid (show chkT ⟨p,q,ps,es,fs,bs⟩=50 by unfold chkT;rw[if_pos (HMANY.out.mpr hmany)])
    rcases(show np<1\/(1<=np/\16<np)\/(1<=np/\np<=16/\48<ne)\/(1<=np/\np<=16/\ne<=48/\16<nf)\/(1<=np/\np<=16/\ne<=48/\nf<=16/\4<nr) by omega)with h1|⟨h1,h2⟩|⟨h1,h2,h3⟩|⟨h1,h2,h3,h4⟩|⟨h1,h2,h3,h4,h5⟩
    all_goals
      clear hmany;go_enter Tryz.func95,Tryz.ntmps95;go_wp2;go_ret;exact⟨by rw[HRES.out,HX.out];rfl,B0.out.b.bel⟩
  · have HMN:=Lib.hid (fun k=>hmany (HMANY.out.mp k))
    have h1:1<=np:=by omega
    have h2:np<=16:=by omega
    have h3:ne<=48:=by omega
    have h4:nf<=16:=by omega
    have h5:nr<=4:=by omega
    clear hmany;cases ht:timeE p q with
    | false =>
      have HX:=Lib.hid (show chkT ⟨p,q,ps,es,fs,bs⟩=51 by unfold chkT;rw[if_neg HMN.out,if_pos ht])
      simp only[ht]at C1;clear ht;go_enter Tryz.func95,Tryz.ntmps95;go_wp2_with fail;refine(C1.out _).mono ?_
      rintro e w1 ⟨rfl,b⟩;have B1:=Lib.hid (B0.out.next b);clear b;go_wp2;go_ret;exact⟨by rw[HRES.out,HX.out];rfl,B1.out.b.bel⟩
    | true =>
      have HTT:=Lib.hid ht;simp only[ht]at C1;clear ht
      by_cases p1:partsOk ps
      · have P1:=Lib.hid p1;simp only[decide_eq_true p1]at C2;clear p1
        by_cases p2:EdgesOk np es
        · have P2:=Lib.hid p2;clear p2
          by_cases p3:FutsOk ps fs
          · have P3:=Lib.hid p3;clear p3
            by_cases p4:BarsOk np bs
            · have P4:=Lib.hid p4;clear p4;have HX:=Lib.hid (show chkT ⟨p,q,ps,es,fs,bs⟩=0 by unfold chkT;rw[if_neg HMN.out,if_neg (by simp only;rw[HTT.out];exact fun k=>Bool.noConfusion k),if_neg (fun k=>k P1.out),if_neg (fun k=>k (by simp only;rw[HP.out];exact P2.out)),if_neg (fun k=>k P3.out),if_neg (fun k=>k (by simp only;rw[HP.out];exact P4.out))])
              go_enter Tryz.func95,Tryz.ntmps95;go_wp2_with fail;refine(C1.out _).mono ?_
              rintro e w1 ⟨rfl,b⟩;have B1:=Lib.hid (B0.out.next b);clear b;obtain⟨c0,c1,c2,c3,c4,c5⟩:=B1.out.b.cells;go_wp2_with fail;refine(C2.out _ B1.out.t).mono ?_
              rintro e w2 ⟨rfl,b⟩;have B2:=Lib.hid (B1.out.next b);clear b c0 c1 c2 c3 c4 c5;obtain⟨c0,c1,c2,c3,c4,c5⟩:=B2.out.b.cells;go_wp2_with fail;refine(C3.out true ⟨fun _=>P2.out,fun _=>rfl⟩ _ B2.out.t).mono ?_
              rintro e w3 ⟨rfl,b⟩;have B3:=Lib.hid (B2.out.next b);clear b c0 c1 c2 c3 c4 c5;obtain⟨c0,c1,c2,c3,c4,c5⟩:=B3.out.b.cells;go_wp2_with fail;refine(C4.out true ⟨fun _=>P3.out,fun _=>rfl⟩ _ B3.out.t).mono ?_
              rintro e w4 ⟨rfl,b⟩;have B4:=Lib.hid (B3.out.next b);clear b c0 c1 c2 c3 c4 c5;obtain⟨c0,c1,c2,c3,c4,c5⟩:=B4.out.b.cells;go_wp2_with fail;refine(C5.out true ⟨fun _=>P4.out,fun _=>rfl⟩ _ B4.out.t).mono ?_
              rintro e w5 ⟨rfl,b⟩;have B5:=Lib.hid (B4.out.next b);clear b c0 c1 c2 c3 c4 c5;go_wp2;go_ret;exact⟨by rw[HRES.out,HX.out];rfl,B5.out.b.bel⟩
            · have P4:=Lib.hid p4;clear p4;have HX:=Lib.hid (show chkT ⟨p,q,ps,es,fs,bs⟩=55 by unfold chkT;rw[if_neg HMN.out,if_neg (by simp only;rw[HTT.out];exact fun k=>Bool.noConfusion k),if_neg (fun k=>k P1.out),if_neg (fun k=>k (by simp only;rw[HP.out];exact P2.out)),if_neg (fun k=>k P3.out),if_pos (by simp only;rw[HP.out];exact P4.out)])
              go_enter Tryz.func95,Tryz.ntmps95;go_wp2_with fail;refine(C1.out _).mono ?_
              rintro e w1 ⟨rfl,b⟩;have B1:=Lib.hid (B0.out.next b);clear b;obtain⟨c0,c1,c2,c3,c4,c5⟩:=B1.out.b.cells;go_wp2_with fail;refine(C2.out _ B1.out.t).mono ?_
              rintro e w2 ⟨rfl,b⟩;have B2:=Lib.hid (B1.out.next b);clear b c0 c1 c2 c3 c4 c5;obtain⟨c0,c1,c2,c3,c4,c5⟩:=B2.out.b.cells;go_wp2_with fail;refine(C3.out true ⟨fun _=>P2.out,fun _=>rfl⟩ _ B2.out.t).mono ?_
              rintro e w3 ⟨rfl,b⟩;have B3:=Lib.hid (B2.out.next b);clear b c0 c1 c2 c3 c4 c5;obtain⟨c0,c1,c2,c3,c4,c5⟩:=B3.out.b.cells;go_wp2_with fail;refine(C4.out true ⟨fun _=>P3.out,fun _=>rfl⟩ _ B3.out.t).mono ?_
              rintro e w4 ⟨rfl,b⟩;have B4:=Lib.hid (B3.out.next b);clear b c0 c1 c2 c3 c4 c5;obtain⟨c0,c1,c2,c3,c4,c5⟩:=B4.out.b.cells;go_wp2_with fail;refine(C5.out false ⟨fun k=>Bool.noConfusion k,fun k=>absurd k P4.out⟩ _ B4.out.t).mono ?_
              rintro e w5 ⟨rfl,b⟩;have B5:=Lib.hid (B4.out.next b);clear b c0 c1 c2 c3 c4 c5;go_wp2;go_ret;exact⟨by rw[HRES.out,HX.out];rfl,B5.out.b.bel⟩
          · have P3:=Lib.hid p3;clear p3;have HX:=Lib.hid (show chkT ⟨p,q,ps,es,fs,bs⟩=54 by unfold chkT;rw[if_neg HMN.out,if_neg (by simp only;rw[HTT.out];exact fun k=>Bool.noConfusion k),if_neg (fun k=>k P1.out),if_neg (fun k=>k (by simp only;rw[HP.out];exact P2.out)),if_pos P3.out])
            go_enter Tryz.func95,Tryz.ntmps95;go_wp2_with fail;refine(C1.out _).mono ?_
            rintro e w1 ⟨rfl,b⟩;have B1:=Lib.hid (B0.out.next b);clear b;obtain⟨c0,c1,c2,c3,c4,c5⟩:=B1.out.b.cells;go_wp2_with fail;refine(C2.out _ B1.out.t).mono ?_
            rintro e w2 ⟨rfl,b⟩;have B2:=Lib.hid (B1.out.next b);clear b c0 c1 c2 c3 c4 c5;obtain⟨c0,c1,c2,c3,c4,c5⟩:=B2.out.b.cells;go_wp2_with fail;refine(C3.out true ⟨fun _=>P2.out,fun _=>rfl⟩ _ B2.out.t).mono ?_
            rintro e w3 ⟨rfl,b⟩;have B3:=Lib.hid (B2.out.next b);clear b c0 c1 c2 c3 c4 c5;obtain⟨c0,c1,c2,c3,c4,c5⟩:=B3.out.b.cells;go_wp2_with fail;refine(C4.out false ⟨fun k=>Bool.noConfusion k,fun k=>absurd k P3.out⟩ _ B3.out.t).mono ?_
            rintro e w4 ⟨rfl,b⟩;have B4:=Lib.hid (B3.out.next b);clear b c0 c1 c2 c3 c4 c5;go_wp2;go_ret;exact⟨by rw[HRES.out,HX.out];rfl,B4.out.b.bel⟩
        · have P2:=Lib.hid p2;clear p2;have HX:=Lib.hid (show chkT ⟨p,q,ps,es,fs,bs⟩=53 by unfold chkT;rw[if_neg HMN.out,if_neg (by simp only;rw[HTT.out];exact fun k=>Bool.noConfusion k),if_neg (fun k=>k P1.out),if_pos (by simp only;rw[HP.out];exact P2.out)])
          go_enter Tryz.func95,Tryz.ntmps95;go_wp2_with fail;refine(C1.out _).mono ?_
          rintro e w1 ⟨rfl,b⟩;have B1:=Lib.hid (B0.out.next b);clear b;obtain⟨c0,c1,c2,c3,c4,c5⟩:=B1.out.b.cells;go_wp2_with fail;refine(C2.out _ B1.out.t).mono ?_
          rintro e w2 ⟨rfl,b⟩;have B2:=Lib.hid (B1.out.next b);clear b c0 c1 c2 c3 c4 c5;obtain⟨c0,c1,c2,c3,c4,c5⟩:=B2.out.b.cells;go_wp2_with fail;refine(C3.out false ⟨fun k=>Bool.noConfusion k,fun k=>absurd k P2.out⟩ _ B2.out.t).mono ?_
          rintro e w3 ⟨rfl,b⟩;have B3:=Lib.hid (B2.out.next b);clear b c0 c1 c2 c3 c4 c5;go_wp2;go_ret;exact⟨by rw[HRES.out,HX.out];rfl,B3.out.b.bel⟩
      · have P1:=Lib.hid p1;simp only[decide_eq_false p1]at C2;clear p1;have HX:=Lib.hid (show chkT ⟨p,q,ps,es,fs,bs⟩=52 by unfold chkT;rw[if_neg HMN.out,if_neg (by simp only;rw[HTT.out];exact fun k=>Bool.noConfusion k),if_pos P1.out])
        go_enter Tryz.func95,Tryz.ntmps95;go_wp2_with fail;refine(C1.out _).mono ?_
        rintro e w1 ⟨rfl,b⟩;have B1:=Lib.hid (B0.out.next b);clear b;obtain⟨c0,c1,c2,c3,c4,c5⟩:=B1.out.b.cells;go_wp2_with fail;refine(C2.out _ B1.out.t).mono ?_
        rintro e w2 ⟨rfl,b⟩;have B2:=Lib.hid (B1.out.next b);clear b c0 c1 c2 c3 c4 c5;go_wp2;go_ret;exact⟨by rw[HRES.out,HX.out];rfl,B2.out.b.bel⟩
def barsFew(bs:List (List Int×List Int))(k:Nat):Prop:=∀ i,i<k-> ∀b,bs[i]? =some b->b.1.length<=20/\b.2.length<=20
structure FewD(T:Task):Prop where
 bars:barsFew T.bars 9
 np:T.parts.length<=20
 ne:T.edges.length<=60
 nf:T.futures.length<=20
 nr:T.bars.length<=8
theorem FewD.few{T:Task}(h:FewD T):FewT T:=by
 refine⟨by have:=h.np;omega,by have:=h.ne;omega,by have:=h.nf;omega,by have:=h.nr;omega,fun b hb=> ?_⟩
 obtain⟨i,hi,e⟩:=List.getElem_of_mem hb;have hn:=h.nr;have:=h.bars i (by omega) b (by rw[List.getElem?_eq_getElem hi,e])
 omega
theorem barsFew_step{bs:List (List Int×List Int)}{k:Nat}{b:List Int×List Int}(h:barsFew bs k)(hb:bs[k]? =some b)(h1:b.1.length<=20)(h2:b.2.length<=20):barsFew bs (k+1):=by
 intro i hi c hc
 by_cases e:i=k
 ·rw [e,hb] at hc
  injection hc with hc;rw[<-hc];exact⟨h1,h2⟩
 ·exact h i (by omega) c hc
theorem dfew_any(s:Sh)(T:Task)(p q:Int)(r:Bool)(hr:r=true↔FewD T)(w:World)(hT:IsT w w.heap.size s T):
  Calls Tryz.prog 32 #[s.arg p q] w fun e w'=>e= .returned (.bool r)/\Below w.heap.size w w':=by
 obtain⟨P,np,pc,E,ne,ec,F,nf,fc,R,nr,rc⟩:=s;have B0:=Lib.hid (BxTd.start hT p q);have hp:=hT.hp;have he:=hT.he;have hf:=hT.hf;have hrr:=hT.hr;simp only at hp he hf hrr;have HR:=Lib.hid (show r=true↔barsFew T.bars 9/\np<=20/\ne<=60/\nf<=20/\nr<=8 by
  rw[hr,<-hp,<-he,<-hf,<-hrr];exact⟨fun h=>⟨h.bars,h.np,h.ne,h.nf,h.nr⟩,fun h=>⟨h.1,h.2.1,h.2.2.1,h.2.2.2.1,h.2.2.2.2⟩⟩)
 have HN:=Lib.hid hrr;have HT:=Lib.hid hT;simp only[Sh.arg];clear hr hp he hf hrr hT;go_enter Tryz.func32,Tryz.ntmps32;go_wp2;go_loop [3] (fun v=> ∃k:Nat,k<=nr/\k<=9/\v= .int .i64 k/\Hid (barsFew T.bars k)) (fun v=>9 - (intOf v).toNat)
 case atStart=>exact⟨0,Nat.zero_le _,by omega,rfl,Lib.hid (fun i hi=>by omega)⟩
 case round=>
  obtain⟨k,hk,hk9,rfl,HF⟩:=hrel
  by_cases hlt:k<nr/\k<9
  ·obtain ⟨bk,off,xs,ys,A1,n1,c1,A2,n2,c2,hR,hbg,hbj,hl1,hl2,dq1,dq2,_,_,_,_⟩:=HT.out.bars.at_ (k:=k) (by rw [HN.out]; exact hlt.1)
   simp only at hR;subst hR;have hkn:=hlt.1;have hk9':=hlt.2;have g1:decide ((k:Int)<(nr:Int))=true:=by rw[decide_eq_true_iff];omega
   have g2:decide ((k:Int)<9)=true:=by rw[decide_eq_true_iff];omega
   clear hlt
   by_cases h1:n1<=20
   ·have g3: decide ((20: Int) < (n1: Int)) = false:=by rw [decide_eq_false_iff_not]; omega
    by_cases h2:n2<=20
    ·have g4: decide ((20: Int) < (n2: Int)) = false:=by rw [decide_eq_false_iff_not]; omega
     have HST:=Lib.hid (barsFew_step HF.out hbj (by rw[hl1];exact h1) (by rw[hl2];exact h2))
     clear hbj hl1 hl2;go_wp2;go_round
     case rel=>exact⟨k+1,by omega,by omega,by go_num,HST⟩
     case measure=>simp[intOf];omega
    ·have g4: decide ((20: Int) < (n2: Int)) = true:=by rw [decide_eq_true_iff]; omega
     have HX:=Lib.hid (show r=false by
      rw[<-Bool.not_eq_true];intro h;have:=((HR.out.mp h).1 k hk9' _ hbj).2;simp only at this;rw[hl2]at this;exact h2 this)
     clear hbj hl1 hl2;go_wp2;go_ret;exact⟨by rw[HX.out];rfl,B0.out.b.bel⟩
   ·have g3: decide ((20: Int) < (n1: Int)) = true:=by rw [decide_eq_true_iff]; omega
    have HX:=Lib.hid (show r=false by
     rw[<-Bool.not_eq_true];intro h;have:=((HR.out.mp h).1 k hk9' _ hbj).1;simp only at this;rw[hl1]at this;exact h1 this)
    clear hbj hl1 hl2;go_wp2;go_ret;exact⟨by rw[HX.out];rfl,B0.out.b.bel⟩
  ·have HALL: Hid (k = nr \/ (k < nr /\ k = 9)):=Lib.hid (by omega)
   have HBF:Hid (barsFew T.bars 9):=Lib.hid (fun i hi b hb=>by
    rcases HALL.out with e|⟨_,e⟩
    ·have:=(List.getElem?_eq_some_iff.1 hb).1
     rw[HN.out]at this;exact HF.out i (by omega) b hb
    ·exact HF.out i (by omega) b hb)
   by_cases hF:np<=20/\ne<=60/\nf<=20/\nr<=8
   ·have HX:=Lib.hid (HR.out.mpr ⟨HBF.out,hF⟩)
    obtain⟨h1,h2,h3,h4⟩:=hF;have e:k=nr:=by omega
    subst e;clear hlt;go_wp2;go_ret;exact⟨by rw[HX.out];first|rfl|(refine congrArg (fun b=>Ending.returned (Value.bool b)) (?_:decide _=_);rw[decide_eq_true_iff];omega),B0.out.b.bel⟩
   ·have HX:=Lib.hid (show r = false by
     rw[<-Bool.not_eq_true];exact fun h=>hF (HR.out.mp h).2)
    rcases(show(k=nr/\20<np)\/(k=nr/\np<=20/\60<ne)\/(k=nr/\np<=20/\ne<=60/\20<nf)\/(k=nr/\np<=20/\ne<=60/\nf<=20/\8<nr)\/(k<nr/\k=9/\20<np)\/(k<nr/\k=9/\np<=20/\60<ne)\/(k<nr/\k=9/\np<=20/\ne<=60/\20<nf)\/(k<nr/\k=9/\np<=20/\ne<=60/\nf<=20/\8<nr) by have:=HALL.out;omega)
     with⟨e,h1⟩|⟨e,h1,h2⟩|⟨e,h1,h2,h3⟩|⟨e,h1,h2,h3,h4⟩|⟨e0,e,h1⟩|⟨e0,e,h1,h2⟩|⟨e0,e,h1,h2,h3⟩|⟨e0,e,h1,h2,h3,h4⟩
    all_goals
     subst e;clear hlt hF HALL;go_wp2;go_ret;exact⟨by rw[HX.out];first|rfl|(refine congrArg (fun b=>Ending.returned (Value.bool b)) (?_:decide _=_);rw[decide_eq_false_iff_not];omega),B0.out.b.bel⟩
def flatT(es:List (Int×Int×Int)):List Value:=es.flatMap fun e=> [.int .i64 e.1,.int .i64 e.2.1,.int .i64 e.2.2]
theorem flatT_length(es:List (Int×Int×Int)):(flatT es).length=es.length * 3:=by
  induction es with
  |nil=>rfl
  | cons e es ih =>
    rw[show flatT (e::es)= .int .i64 e.1:: .int .i64 e.2.1:: .int .i64 e.2.2::flatT es from rfl,List.length_cons,List.length_cons,List.length_cons,List.length_cons,ih]
    omega
theorem flatT_at: ∀{es:List (Int×Int×Int)} {k:Nat} {e:Int×Int×Int},es[k]? =some e->(flatT es)[k * 3]? =some (.int .i64 e.1)/\(flatT es)[k * 3+1]? =some (.int .i64 e.2.1)/\(flatT es)[k * 3+2]? =some (.int .i64 e.2.2)
  | [],k,e,h=>by simp at h
  | x :: es, 0, e, h => by
    obtain rfl:x=e:=by simpa using h
    exact⟨rfl,rfl,rfl⟩
  | x :: es, k + 1, e, h => by
    have ih:=flatT_at (es:=es) (k:=k) (e:=e) (by simpa using h)
    have e1:flatT (x::es)= .int .i64 x.1:: .int .i64 x.2.1:: .int .i64 x.2.2::flatT es:=rfl;rw[e1,show(k+1) * 3=k * 3+1+1+1 by omega]
    simp only[List.getElem?_cons_succ]
    exact ih
theorem flatT_cell{es:List (Int×Int×Int)}{j:Nat}{u:Value}(h:(flatT es)[j]? =some u): ∃e,es[j/3]? =some e/\((j%3=0/\u= .int .i64 e.1)\/(j%3=1/\u= .int .i64 e.2.1)\/(j%3=2/\u= .int .i64 e.2.2)):=by
 have hj:j<es.length * 3:=by
  rw[<-flatT_length];rcases Nat.lt_or_ge j (flatT es).length with h1|h1
  ·exact h1
  ·rw[List.getElem?_eq_none h1]at h;cases h
 have hk:es[j/3]? =some es[j/3]:=List.getElem?_eq_getElem (by omega)
 refine⟨_,hk,?_⟩
 obtain⟨h1,h2,h3⟩:=flatT_at hk;rcases(show j%3=0\/j%3=1\/j%3=2 by omega)with h0|h0|h0
 ·rw [show j / 3 * 3 = j by omega,h] at h1
  exact .inl ⟨h0,Option.some.inj h1⟩
 ·rw [show j / 3 * 3 + 1 = j by omega,h] at h2
  exact .inr (.inl ⟨h0,Option.some.inj h2⟩)
 ·rw [show j / 3 * 3 + 2 = j by omega,h] at h3
  exact .inr (.inr ⟨h0,Option.some.inj h3⟩)
theorem flatT_one(es:List (Int×Int×Int)): ∀u∈flatT es,u.oneCell'=true:=by
 intro u hu;unfold flatT at hu;obtain⟨e,_,h⟩:=List.mem_flatMap.mp hu;rcases(by simpa using h:u= .int .i64 e.1\/u= .int .i64 e.2.1\/u= .int .i64 e.2.2)with rfl|rfl|rfl<;>rfl
theorem Trips.news{w:World}{B:Nat}{ad:Addr}{es:List (Int×Int×Int)}(h:Trips w B (some ad) es): ∀j u,(flatT es)[j]? =some u->w.cell? (ad.add j)=some u:=by
 intro j u hu;obtain⟨e,he,hu2⟩:=flatT_cell hu;have hl:0<es.length:=by
  cases es with
  |nil=>simp at he
  |cons _ _=>simp
 obtain⟨b,off,hA,_,hc⟩:=h hl;injection hA with hA;subst hA;rw[addr_add];obtain⟨c1,c2,c3⟩:=hc _ _ he;rcases hu2 with⟨h0,rfl⟩|⟨h0,rfl⟩|⟨h0,rfl⟩
 ·rw [show off + j = off + j / 3 * 3 by omega]
  exact c1
 ·rw [show off + j = off + j / 3 * 3 + 1 by omega]
  exact c2
 ·rw [show off + j = off + j / 3 * 3 + 2 by omega]
  exact c3
def OwnT(t:TypeId)(w:World)(base:Nat)(v:Value)(es:List (Int×Int×Int)):Prop:=w.ownsRow base t 3 v es.length (flatT es)
theorem OwnT.below{t:TypeId}{w w':World}{base:Nat}{v:Value}{es:List (Int×Int×Int)}(h:OwnT t w base v es)(hb:Below w.heap.size w w'):OwnT t w' base v es:=own_below h hb
theorem OwnT.slice{t:TypeId}{w:World}{base:Nat}{v:Value}{es:List (Int×Int×Int)}(h:OwnT t w base v es): ∃A c,v= .slice A es.length c/\Trips w w.heap.size A es/\(A=none->es.length=0/\c=0):=by
 rcases h.2 with⟨rfl,hn⟩|⟨g,cap,cur,rfl,hg,hgg,hnc,hcm,hcs,htake⟩
 ·have: es = []:=List.eq_nil_of_length_eq_zero hn
  subst this;exact⟨none,0,rfl,(fun h0=>absurd h0 (by simp)),fun _=>⟨rfl,rfl⟩⟩
 ·refine ⟨some ⟨g,0,none⟩,cap,rfl,(fun _ => ⟨g,0,rfl,(Array.getElem?_eq_some_iff.1 hgg).1,fun k e he => ?_⟩),fun e => by cases e⟩
  obtain⟨h1,h2,h3⟩:=flatT_at he;have h':w.ownsRow base t 3 (.slice (some ⟨g,0,none⟩) es.length cap) es.length (flatT es):=h;have c1:=h'.cells (g:=g) rfl _ _ h1;have c2:=h'.cells (g:=g) rfl _ _ h2;have c3:=h'.cells (g:=g) rfl _ _ h3;rw[addr_add]at c1 c2 c3;rw[show 0+(k * 3+1)=0+k * 3+1 by omega]at c2
  rw[show 0+(k * 3+2)=0+k * 3+2 by omega]at c3
  exact⟨c1,c2,c3⟩
theorem OwnE.slice'{w:World}{base:Nat}{v:Value}{es:List (Int×Int)}(h:OwnE w base v es): ∃A c,v= .slice A es.length c/\Pairs w w.heap.size A es/\(A=none->es.length=0/\c=0):=by
 obtain⟨A,c,he,hp⟩:=h.slice;refine⟨A,c,he,hp,fun e=> ?_⟩
 rcases h.2 with⟨h1,hn⟩|⟨g,cap,cur,h1,_⟩
 ·rw [he] at h1
  injection h1 with _ h2 h3;exact⟨h2,h3⟩
 ·rw [he,e] at h1
  injection h1 with h2;cases h2
theorem part_info:(Tryz.prog.info? 62).map (fun i=>(i.zero,i.size,i.bytes))=some (some (.agg #[.int .i64 0,.int .i64 0,.int .i64 0]),3,24):=by kernel_rfl
theorem future_info:(Tryz.prog.info? 156).map (fun i=>(i.zero,i.size,i.bytes))=some (some (.agg #[.int .i64 0,.int .i64 0,.int .i64 0]),3,24):=by kernel_rfl
theorem info_parts5{P:Program}{t:TypeId}{z:Value}{s b:Nat}(h:(P.info? t).map (fun i=>(i.zero,i.size,i.bytes))=some (some z,s,b)): ∃i,P.info? t=some i/\i.zero=some z/\i.size=s/\i.bytes=b:=by
  cases hi:P.info? t with
  |none=>rw[hi]at h;cases h
  | some i =>
    rw[hi]at h;simp at h;exact⟨i,rfl,h.1,h.2.1,h.2.2⟩
def NewRow(t:TypeId)(w:World)(base:Nat)(v:Value):Prop:=∃ g,v= .slice (some ⟨g,0,none⟩) 0 0/\w.heap[g]? =some (.cells #[] t (0,0))/\base<=g
theorem NewRow.below{t:TypeId}{w w':World}{base:Nat}{v:Value}(h:NewRow t w base v)(hb:Below w.heap.size w w'):NewRow t w' base v:=by
 obtain⟨g,e,hg,hl⟩:=h;exact⟨g,e,by rw[hb.block _ (Array.getElem?_eq_some_iff.1 hg).1];exact hg,hl⟩
theorem newRow_here(t:TypeId)(w:World)(base:Nat)(hb:base<=w.heap.size):NewRow t (w.alloc (.cells #[] t)) base (.slice (some ⟨w.heap.size,0,none⟩) 0 0):=⟨_,rfl,heap_alloc_new w _,hb⟩
def NewDesc(w:World)(base:Nat)(v:Value):Prop:=∃ g,v= .pointer (some ⟨g,0,none⟩)/\w.heap[g]? =some (.cells #[.int .i64 0,.int .i64 0,.slice none 0 0,.slice none 0 0,.slice none 0 0,.slice none 0 0] 57 (0,0))/\base<=g
theorem NewDesc.below{w w':World}{base:Nat}{v:Value}(h:NewDesc w base v)(hb:Below w.heap.size w w'):NewDesc w' base v:=by
 obtain⟨g,e,hg,hl⟩:=h;exact⟨g,e,by rw[hb.block _ (Array.getElem?_eq_some_iff.1 hg).1];exact hg,hl⟩
def OwnAgg(base:Nat)(p q:Int)(T:Task)(v:Value)(w:World):Prop:=∃ u1 u2 u3,v= .agg #[.int .i64 p,.int .i64 q,u1,u2,u3,.slice none 0 0]/\OwnT 62 w base u1 T.parts/\OwnE w base u2 T.edges/\OwnT 156 w base u3 T.futures
theorem OwnAgg.below{base:Nat}{p q:Int}{T:Task}{v:Value}{w w':World}(h:OwnAgg base p q T v w)(hb:Below w.heap.size w w'):OwnAgg base p q T v w':=by
 obtain⟨u1,u2,u3,e,h1,h2,h3⟩:=h;exact⟨u1,u2,u3,e,h1.below hb,h2.below hb,h3.below hb⟩
def OwnF(b base:Nat)(p q:Int)(s:Sh)(T:Task):Nat->Value->World->Prop
 |0,v,_=>v= .pointer (some ⟨b,0,none⟩)
 |1,v,_=>v= .int .i64 p
 |2,v,_=>v= .pointer (some ⟨b,1,none⟩)
 |3,v,_=>v= .int .i64 q
 |4,v,w=>NewRow 62 w base v
 |5,v,_=>v= .pointer (some ⟨b,2,none⟩)
 |6,v,_=>v= .slice s.P s.np s.pc
 |7,v,w=>OwnT 62 w base v T.parts
 |8,v,w=>NewRow 131 w base v
 |9,v,_=>v= .pointer (some ⟨b,3,none⟩)
 |10,v,_=>v= .slice s.E s.ne s.ec
 |11,v,w=>OwnE w base v T.edges
 |12,v,w=>NewRow 156 w base v
 |13,v,_=>v= .pointer (some ⟨b,4,none⟩)
 |14,v,_=>v= .slice s.F s.nf s.fc
 |15,v,w=>OwnT 156 w base v T.futures
 |16,v,w=>OwnAgg base p q T v w
 |17,v,w=>NewDesc w base v
 |_,_,_=>True
theorem ownF_below{b base:Nat}{p q:Int}{s:Sh}{T:Task}: ∀(k:Nat) (v:Value) (w w':World),OwnF b base p q s T k v w->Below w.heap.size w w'->OwnF b base p q s T k v w'
 |0,_,_,_,h,_|1,_,_,_,h,_|2,_,_,_,h,_|3,_,_,_,h,_|5,_,_,_,h,_|6,_,_,_,h,_|9,_,_,_,h,_|10,_,_,_,h,_|13,_,_,_,h,_|14,_,_,_,h,_=>h
 |4,_,_,_,h,hb=>NewRow.below h hb
 |8,_,_,_,h,hb=>NewRow.below h hb
 |12,_,_,_,h,hb=>NewRow.below h hb
 |7,_,_,_,h,hb=>OwnT.below h hb
 |11,_,_,_,h,hb=>OwnE.below h hb
 |15,_,_,_,h,hb=>OwnT.below h hb
 |16,_,_,_,h,hb=>OwnAgg.below h hb
 |17,_,_,_,h,hb=>NewDesc.below h hb
 |_+18,_,_,_,_,_=>trivial
structure OwnVar(base:Nat)(p q:Int)(T:Task)(g:Nat)(u1 u2 u3:Value)(w:World):Prop where
 row:w.heap[g]? =some (.cells #[.int .i64 p,.int .i64 q,u1,u2,u3,.slice none 0 0] 57 (0,0))
 parts:OwnT 62 w base u1 T.parts
 edges:OwnE w base u2 T.edges
 futures:OwnT 156 w base u3 T.futures
 le:base<=g
theorem other_own{w w':World}{base:Nat}{e t:TypeId}{s n g:Nat}{v:Value}{xs:List Value}{cs:Array Value}(h:w.ownsRow base e s v n xs)(hg:w.heap[g]? =some (.cells cs t (0,0)))(ht:e≠t)(hk: ∀k,k≠g->w'.heap[k]? =w.heap[k]?):w'.ownsRow base e s v n xs:=by
 refine⟨h.1,?_⟩
 rcases h.2 with hn|⟨g',cap,cur,rfl,hg',hgg,rest⟩
 ·exact .inl hn
 ·refine .inr ⟨g',cap,cur,rfl,hg',?_,rest⟩
  rw[hk g' (fun e1=>by
   subst e1;rw[hg]at hgg;injection hgg with hgg;injection hgg with _ h2 _;exact ht h2.symm)]
  exact hgg
theorem own_last{o:Oper}{a:Act}{x:World}{base:Nat}{p q:Int}{T:Task}{K:Act->World->Prop}{Q:Exit->Act->World->Prop}(s y:Operand)(hop:o.op= .store 57 s y)(hdst:o.dst=none)
  (f16:OwnAgg base p q T (a.eval y) x) (f17:NewDesc x base (a.eval s)) (hK: ∀g u1 u2 u3 x',a.eval s= .pointer (some ⟨g,0,none⟩)->a.eval y= .agg #[.int .i64 p,.int .i64 q,u1,u2,u3,.slice none 0 0]->OwnVar base p q T g u1 u2 u3 x'->Below base x x'->K a x'):o.wp Tryz.prog a x K Q:=by
 obtain⟨u1,u2,u3,e16,q1,q2,q3⟩:=f16;obtain⟨g,e17,hg,hgl⟩:=f17;obtain⟨A1,c1,rfl,_,_⟩:=q1.slice;obtain⟨A2,c2,rfl,_,_⟩:=q2.slice';obtain⟨A3,c3,rfl,_,_⟩:=q3.slice;have d0:=cell_of_row x g 0 _ _ _ hg;have d1:=cell_of_row x g 1 _ _ _ hg;have d2:=cell_of_row x g 2 _ _ _ hg;have d3:=cell_of_row x g 3 _ _ _ hg;have d4:=cell_of_row x g 4 _ _ _ hg;have d5:=cell_of_row x g 5 _ _ _ hg;have z0:=frozen_of_row x g 0 _ _ hg;have z1:=frozen_of_row x g 1 _ _ hg;have z2:=frozen_of_row x g 2 _ _ hg;have z3:=frozen_of_row x g 3 _ _ hg;have z4:=frozen_of_row x g 4 _ _ hg;have z5:=frozen_of_row x g 5 _ _ hg;simp at d0 d1 d2 d3 d4 d5;have hlt:g<x.heap.size:=(Array.getElem?_eq_some_iff.1 hg).1
 obtain⟨x',hx'⟩: ∃x',x'=((((((x.setCell ⟨g,0,none⟩ (.int .i64 p)).setCell ⟨g,1,none⟩ (.int .i64 q)).setCell ⟨g,2,none⟩ (.slice A1 T.parts.length c1)).setCell ⟨g,3,none⟩ (.slice A2 T.edges.length c2)).setCell ⟨g,4,none⟩ (.slice A3 T.futures.length c3)).setCell ⟨g,5,none⟩ (.slice none 0 0)):=⟨_,rfl⟩;have hr:(execOp a.eval o).run Tryz.prog x= .ok .skip x':=by
  rw[hx'];simp only[execOp,hop];rw[e16,e17];simp[go_sem,d0,d1,d2,d3,d4,d5,z0,z1,z2,z3,z4,z5]
 have h1:=heap_setCell_same x g 0 _ _ (.int .i64 p) hg;have h2:=heap_setCell_same _ g 1 _ _ (.int .i64 q) h1;have h3:=heap_setCell_same _ g 2 _ _ (.slice A1 T.parts.length c1) h2;have h4:=heap_setCell_same _ g 3 _ _ (.slice A2 T.edges.length c2) h3;have h5:=heap_setCell_same _ g 4 _ _ (.slice A3 T.futures.length c3) h4;have h6:=heap_setCell_same _ g 5 _ _ (.slice none 0 0) h5;rw[<-hx']at h6;have ho: ∀k,k≠g->x'.heap[k]? =x.heap[k]?:=fun k hk=>by
  rw[hx',heap_setCell_other _ _ _ _ hk,heap_setCell_other _ _ _ _ hk,heap_setCell_other _ _ _ _ hk,heap_setCell_other _ _ _ _ hk,heap_setCell_other _ _ _ _ hk,heap_setCell_other _ _ _ _ hk]
 have hb:Below base x x':=by
  rw[hx'];exact(((((((Below.refl base x).setCell hgl _).setCell hgl _).setCell hgl _).setCell hgl _).setCell hgl _).setCell hgl _)
 unfold Oper.wp;rw[hr,Oper.upon_skip,hdst];exact hK g _ _ _ x' e17 e16 ⟨h6,other_own q1 hg (by decide) ho,other_own q2 hg (by decide) ho,other_own q3 hg (by decide) ho,hgl⟩ hb
def RB(base:Nat)(row:Option Nat)(w w':World):Prop:=
 Below w.heap.size w w'\/(w.grownBy w' row/\ ∀b,row=some b->base<=b/\ ∃cs fr,w.heap[b]? =some (.cells cs 97 fr))
theorem RB.size{base:Nat}{row:Option Nat}{w w':World}(h:RB base row w w'):w.heap.size<=w'.heap.size:=by
 rcases h with h|⟨h,_⟩
 ·exact h.size
 ·exact h.size
theorem RB.heap{base:Nat}{row:Option Nat}{w w':World}(h:RB base row w w'){k:Nat}{cs:Array Value}{t:TypeId}{fr:Nat×Nat}(hk:w.heap[k]? =some (.cells cs t fr))(ht:t≠97):w'.heap[k]? =some (.cells cs t fr):=by
 have hlt:k<w.heap.size:=(Array.getElem?_eq_some_iff.1 hk).1
 rcases h with h|⟨h,h2⟩
 ·rw[h.block k hlt];exact hk
 ·rw [h.block k hlt (fun e => by
   obtain⟨_,cs',fr',h3⟩:=h2 k e.symm;rw[hk]at h3;injection h3 with h3;injection h3 with _ h4 _;exact ht h4)]
  exact hk
theorem RB.own{base base':Nat}{row:Option Nat}{w w':World}(h:RB base row w w'){t:TypeId}{s n:Nat}{v:Value}{xs:List Value}(ho:w.ownsRow base' t s v n xs)(ht:t≠97):w'.ownsRow base' t s v n xs:=by
 refine⟨ho.1,?_⟩
 rcases ho.2 with hn|⟨g,cap,cur,rfl,hg,hgg,rest⟩
 ·exact .inl hn
 ·exact .inr ⟨g,cap,cur,rfl,hg,h.heap hgg ht,rest⟩
theorem RB.below{base:Nat}{row:Option Nat}{w w':World}(h:RB base row w w')(hb:base<=w.heap.size):Below base w w':=by
 rcases h with h|⟨h,h2⟩
 ·exact h.mono hb
 ·refine ⟨h.os,h.tape,h.output,h.size,fun k hk => h.block k (by omega) (fun e => ?_)⟩
  have:=(h2 k e.symm).1;omega
def OwnB(w:World)(base:Nat)(v:Value)(bs:List (List Int×List Int)):Prop:=
 ∃cs:List (Value×Value),cs.length=bs.length/\w.ownsRow base 97 2 v bs.length (cs.flatMap fun c=> [c.1,c.2])/\ ∀(k:Nat) (c:Value×Value) (b:List Int×List Int),cs[k]? =some c->bs[k]? =some b->OwnI w base c.1 b.1/\OwnI w base c.2 b.2
theorem OwnB.below{w w':World}{base:Nat}{v:Value}{bs:List (List Int×List Int)}(h:OwnB w base v bs)(hb:Below w.heap.size w w'):OwnB w' base v bs:=by
 obtain⟨cs,h1,h2,h3⟩:=h;exact⟨cs,h1,own_below h2 hb,fun k c b hc hb'=>⟨(h3 k c b hc hb').1.below hb,(h3 k c b hc hb').2.below hb⟩⟩
theorem OwnB.less{w:World}{base base':Nat}{v:Value}{bs:List (List Int×List Int)}(h:OwnB w base v bs)(hb:base'<=base):OwnB w base' v bs:=by
 obtain⟨cs,h1,h2,h3⟩:=h;exact⟨cs,h1,own_less h2 hb,fun k c b hc hb'=>⟨own_less (h3 k c b hc hb').1 hb,own_less (h3 k c b hc hb').2 hb⟩⟩
theorem OwnB.other{w w':World}{base g:Nat}{t:TypeId}{v:Value}{bs:List (List Int×List Int)}{cs:Array Value}(h:OwnB w base v bs)(hg:w.heap[g]? =some (.cells cs t (0,0)))(h1:97≠t)(h2:3≠t)(hk: ∀k,k≠g->w'.heap[k]? =w.heap[k]?):OwnB w' base v bs:=by
 obtain⟨cs',q1,q2,q3⟩:=h;exact⟨cs',q1,other_own q2 hg h1 hk,fun k c b hc hb'=>⟨other_own (q3 k c b hc hb').1 hg h2 hk,other_own (q3 k c b hc hb').2 hg h2 hk⟩⟩
theorem OwnB.nil(w:World)(base:Nat):OwnB w base (.slice none 0 0) []:=⟨[],rfl,⟨rfl,.inl ⟨rfl,rfl⟩⟩,fun k c b hc=>by simp at hc⟩
theorem OwnB.lt{w:World}{base:Nat}{v:Value}{bs:List (List Int×List Int)}(h:OwnB w base v bs): ∀b,v.ownBlock=some b->base<=b/\b<w.heap.size/\ ∃cs fr,w.heap[b]? =some (.cells cs 97 fr):=by
 intro b hb;obtain⟨cs,_,h2,_⟩:=h;rcases h2.2 with⟨rfl,_⟩|⟨g,cap,cur,rfl,hg,hgg,_⟩
 ·simp[Value.ownBlock]at hb
 ·obtain rfl: g = b:=by simpa [Value.ownBlock] using hb
  exact⟨hg,(Array.getElem?_eq_some_iff.1 hgg).1,_,_,hgg⟩
theorem bar_info:(Tryz.prog.info? 97).map (fun i=>(i.zero,i.size,i.bytes))=some (some (.agg #[.slice none 0 0,.slice none 0 0]),2,48):=by kernel_rfl
def OwnElem(base:Nat)(row:Option Nat)(xs ys:List Int)(v:Value)(w:World):Prop:=
 ∃h v1 v2,v= .slice (some ⟨h,0,none⟩) 1 1/\w.heap[h]? =some (.cells #[v1,v2] 97 (0,0))/\row≠some h/\OwnI w base v1 xs/\OwnI w base v2 ys
theorem OwnElem.rb{base:Nat}{row:Option Nat}{xs ys:List Int}{v:Value}{w w':World}(h:OwnElem base row xs ys v w)(hr:RB base row w w'):OwnElem base row xs ys v w':=by
 obtain⟨k,v1,v2,e,hk,hne,h1,h2⟩:=h;have hlt:k<w.heap.size:=(Array.getElem?_eq_some_iff.1 hk).1
 refine⟨k,v1,v2,e,?_,hne,hr.own h1 (by decide),hr.own h2 (by decide)⟩
 rcases hr with hr|⟨hr,_⟩
 ·rw[hr.block k hlt];exact hk
 ·rw[hr.block k hlt (fun e=>hne e.symm)];exact hk
theorem ownI_one{w:World}{base:Nat}{v:Value}{xs:List Int}(h:OwnI w base v xs):v.oneCell'=true:=by
 obtain⟨A,c,rfl,_⟩:=h.slice;rfl
theorem ownB_append{w:World}{base:Nat}{u v:Value}{bs:List (List Int×List Int)}{xs ys:List Int}(hB:OwnB w base u bs)(hE:OwnElem base u.ownBlock xs ys v w)(hl:bs.length<=1000)(hb:base<=w.heap.size):
  ∃v' w',(Builtin.append_ #[55,55] 55 #[u,v]).run Tryz.prog w= .ok v' w'/\OwnB w' base v' (bs++ [(xs,ys)])/\RB base u.ownBlock w w':=by
 obtain⟨h,v1,v2,rfl,hh,hne,q1,q2⟩:=hE;obtain⟨i0,hi0,hz0,hz1,hz2⟩:=info_parts5 bar_info;have hlt:=hB.lt;obtain⟨cs,hc1,hc2,hc3⟩:=hB;obtain⟨g,cap,w',hr,how,hg,hat,hgl⟩:=run_append_lies (P:=Tryz.prog) w 55 55 base 97 i0 (.agg #[.slice none 0 0,.slice none 0 0]) 2 48 Tryz.underlying55 hi0 hz0 hz1 hz2 rfl (by omega) u bs.length (cs.flatMap fun c=> [c.1,c.2]) hc2
  ⟨h,0,none⟩ 1 1 [v1,v2] rfl (World.news_of_block hh) (fun x hx=>by
   rcases(by simpa using hx:x=v1\/x=v2)with rfl|rfl
   ·exact ownI_one q1
   ·exact ownI_one q2) (by omega) (by unfold maxLen;omega) (by omega) hb _ rfl
 have hRB:RB base u.ownBlock w w':=.inr ⟨hg,fun b hb'=>⟨(hlt b hb').1,(hlt b hb').2.2⟩⟩
 refine⟨_,w',hr,⟨cs++ [(v1,v2)],by simp[hc1],?_,fun k c b hc hb'=> ?_⟩,hRB⟩
 ·rw [List.flatMap_append,List.length_append]
  exact how
 ·rcases Nat.lt_or_ge k cs.length with hk | hk
  ·rw [List.getElem?_append_left hk] at hc
   rw[List.getElem?_append_left (by omega)]at hb'
   have:=hc3 k c b hc hb';exact⟨hRB.own this.1 (by decide),hRB.own this.2 (by decide)⟩
  ·rw [List.getElem?_append_right hk] at hc
   rw[List.getElem?_append_right (by omega)]at hb'
   have hk0:k - cs.length=0:=by
    have:=(List.getElem?_eq_some_iff.1 hc).1
    simp at this
    omega
   rw[hk0]at hc;rw[show k - bs.length=0 by omega]at hb'
   obtain rfl:(v1,v2)=c:=by simpa using hc
   obtain rfl:(xs,ys)=b:=by simpa using hb'
   exact⟨hRB.own q1 (by decide),hRB.own q2 (by decide)⟩
end Go.Proofs.YtlfekmbalgkmeaaGreatDoor
