import Derived.Test.YtlfekmbalgkmeaaGreatDoorZM11
import Derived.Test.YtlfekmbalgkmeaaGreatDoorZM39
import Derived.Test.YtlfekmbalgkmeaaGreatDoorZM34
import Derived.Test.YtlfekmbalgkmeaaGreatDoorZRefShape
import Derived.Test.YtlfekmbalgkmeaaGreatDoorZM4
set_option linter.unusedSimpArgs false
set_option linter.unnecessarySimpa false
set_option linter.unusedVariables false
set_option maxRecDepth 100000
set_option maxHeartbeats 64000000
namespace Go.Proofs.YtlfekmbalgkmeaaGreatDoor
open Go Go.RowKit
theorem RowV.farZ{g k j:Nat}{t:TypeId}{vs:List Value}{w:World}{v:Value}(h:RowV g t vs w)(hk:g≠k):RowV g t vs (w.setCell ⟨k,j,none⟩ v):=by
 unfold RowV at *;rw[Below.heap_setCell w ⟨k,j,none⟩ v g hk];exact h
structure IAd(wf:World)(r:Nat)(vS vG:Value)(w:World):Prop where
 bel:Below wf.heap.size wf w
 r0:RowV r 28 [.slice none 0 0,.slice none 0 0] w
 r1:RowV (r+1) 28 [.slice none 0 0,.slice none 0 0] w
 r2:RowV (r+1+1) 28 [vS,vG] w
theorem IAd.below{wf w w':World}{r:Nat}{vS vG:Value}(h:IAd wf r vS vG w)(hr:r=wf.heap.size)(hb:Below (r+1+1+1) w w'):IAd wf r vS vG w':=
 ⟨h.bel.trans (hb.mono (by omega)),h.r0.below hb (by omega),h.r1.below hb (by omega),h.r2.below hb (by omega)⟩
theorem IAd.lt{wf w:World}{r:Nat}{vS vG:Value}(h:IAd wf r vS vG w):r+1+1+1<=w.heap.size:=h.r2.lt
theorem IAd.next{wf w w':World}{r:Nat}{vS vG:Value}(h:IAd wf r vS vG w)(hr:r=wf.heap.size)(hb:Below w.heap.size w w'):IAd wf r vS vG w':=h.below hr (hb.mono h.lt)
theorem IAd.set0{wf w:World}{r:Nat}{vS vG:Value}(h:IAd wf r vS vG w)(hr:r=wf.heap.size)(x:Value):IAd wf r x vG (w.setCell ⟨r+1+1,0,none⟩ x):=
 ⟨h.bel.setCell (p:=⟨r+1+1,0,none⟩) (show wf.heap.size<=r+1+1 by omega) x,h.r0.farZ (by omega),h.r1.farZ (by omega),h.r2.set 0 x⟩
theorem IAd.ret{wf w:World}{r:Nat}{vS vG:Value}(h:IAd wf r vS vG w)(hr:r=wf.heap.size):RowV r 28 [.slice none 0 0,.slice none 0 0] ((w.setCell ⟨r,0,none⟩ (.slice none 0 0)).setCell ⟨r,1,none⟩ (.slice none 0 0))/\Below wf.heap.size wf ((w.setCell ⟨r,0,none⟩ (.slice none 0 0)).setCell ⟨r,1,none⟩ (.slice none 0 0)):=
 ⟨h.r0.two _ _,(h.bel.setCell (p:=⟨r,0,none⟩) (show wf.heap.size<=r by omega) _).setCell (p:=⟨r,1,none⟩) (show wf.heap.size<=r by omega) _⟩
theorem Turn1.bel{q:Nat}{a b c:World}(h:Turn1 q a b)(k:Below a.heap.size b c):Turn1 q a c:=
 ⟨k.os.trans h.os,k.tape.trans h.tape,k.output.trans h.output,Nat.le_trans h.size k.size,fun i hi hc=>(k.block i hi).trans (h.block i hi hc)⟩
theorem Turn1.grow{q:Nat}{a b c:World}{row:Option Nat}(h:Turn1 q a b)(k:b.grownBy c row)(hr: ∀e,row=some e->a.heap.size<=e):Turn1 q a c:=
 ⟨k.os.trans h.os,k.tape.trans h.tape,k.output.trans h.output,Nat.le_trans h.size k.size,fun i hi hc=>(k.block i (Nat.lt_of_lt_of_le hi h.size) (fun e=>by have:=hr i e.symm;omega)).trans (h.block i hi hc)⟩
theorem Turn1.set{q:Nat}{a b:World}(h:Turn1 q a b)(k:Nat)(v:Value):Turn1 q a (b.setCell ⟨q,k,none⟩ v):=
 ⟨h.os,h.tape,h.output,by simp[h.size],fun i hi hc=>(Below.heap_setCell b ⟨q,k,none⟩ v i hc).trans (h.block i hi hc)⟩
theorem own_turn{w W:World}{q b:Nat}{e:TypeId}{s n:Nat}{v:Value}{xs:List Value}(h:w.ownsRow b e s v n xs)(ht:Turn1 q w W)(hq:q<b):W.ownsRow b e s v n xs:=by
 refine⟨h.1,?_⟩
 rcases h.2 with z|⟨g,cap,cur,rfl,hbg,hh,rest⟩
 ·exact .inl z
 ·refine .inr ⟨g,cap,cur,rfl,hbg,?_,rest⟩
  rw[ht.block g (Array.getElem?_eq_some_iff.1 hh).1 (by omega)]
  exact hh
theorem EachC.snoc{w:World}{B i:Nat}{L:List Value}{C:List (List Int)}{x:Value}{c:List Int}(h:EachC w B L C)(hL:L.length=i)(hc:C[i]? =some c)(hx: ∃F d,x= .slice F c.length d/\OwnI w B x c):EachC w B (L++ [x]) C:=fun k y r hy hr=>by
 by_cases hk:k<i
 ·rw [List.getElem?_append_left (by omega)] at hy
  exact h k y r hy hr
 ·have hlt:=(List.getElem?_eq_some_iff.mp hy).1
  simp only[List.length_append,List.length_singleton]at hlt;obtain rfl:i=k:=by omega
  rw[List.getElem?_append_right (by omega),hL,Nat.sub_self]at hy
  obtain rfl:x=y:=by simpa using hy
  obtain rfl:=Option.some.inj (hc.symm.trans hr);exact hx
theorem usedP_leR: ∀{S:List Shp},(∀s∈S,faultS s=0)->0<=usedP S/\usedP S<=8 * (S.length:Int)
  | [],_=>by simp[usedP]
  | s :: S, h => by
    have ih:=usedP_leR (S:=S) fun x hx=>h x (List.mem_cons_of_mem _ hx)
    have hp:=coresS_pos (h s (List.mem_cons_self ..));simp only[usedP,List.length_cons]
    split<;>omega
theorem heavy_is{t lg mo dd pp:Int}(h:faultS ⟨t,lg,mo,dd,pp⟩=0):heavyS ⟨t,lg,mo,dd,pp⟩=decide (dd<t):=by
 have hO:=(coresS_pos h).2.2.1;unfold heavyS
 by_cases q:dd<t
 ·rw[decide_eq_true q,decide_eq_true ⟨hO,q⟩]
 ·rw[decide_eq_false q,decide_eq_false (fun z=>q z.2)]
theorem lightP_next{S:List Shp}{i:Nat}{s:Shp}(h:S[i]? =some s):lightP (S.take (i+1))=lightP (S.take i)++if heavyS s=true then []else [s]:=by
 rw[take_one h,lightP_app];congr 1;unfold lightP;cases hh:heavyS s<;>simp[hh]
theorem AdmA.hand{Ts:List Task}{m:Int}{S:List Shp}{C:List (List Int)}{e:Int}(h:AdmA Ts m S C e)(h1:MayA Ts.length m)(h2:fstX (Ts.map lowX)=0)(h3:fstX ((shpsT Ts).map faultS)=0):HandA (shpsT Ts) m C e/\S=if e=0 then shpsT Ts else []:=by
 rcases h with⟨h,_⟩|⟨_,h,_⟩|⟨_,_,h,_⟩|⟨_,_,_,h4,h5⟩
 ·exact absurd h1 h
 ·exact absurd h2 h
 ·exact absurd h3 h
 ·exact⟨h4,h5⟩
theorem AdmA.low{Ts:List Task}{m:Int}{S:List Shp}{C:List (List Int)}{e:Int}(h:AdmA Ts m S C e)(h1:MayA Ts.length m)(h2:fstX (Ts.map lowX)≠0):S= []/\C= []/\e=fstX (Ts.map lowX):=by
 rcases h with⟨h,_⟩|⟨_,_,h,h',h''⟩|⟨_,h,_⟩|⟨_,h,_⟩
 ·exact absurd h1 h
 ·exact⟨h,h',h''⟩
 ·exact absurd h h2
 ·exact absurd h h2
theorem AdmA.fault{Ts:List Task}{m:Int}{S:List Shp}{C:List (List Int)}{e:Int}(h:AdmA Ts m S C e)(h1:MayA Ts.length m)(h2:fstX (Ts.map lowX)=0)(h3:fstX ((shpsT Ts).map faultS)≠0):S= []/\C= []/\e=fstX ((shpsT Ts).map faultS):=by
 rcases h with⟨h,_⟩|⟨_,h,_⟩|⟨_,_,_,h,h',h''⟩|⟨_,_,h,_⟩
 ·exact absurd h1 h
 ·exact absurd h2 h
 ·exact⟨h,h',h''⟩
 ·exact absurd h h3
theorem HandA.full{S:List Shp}{m:Int}{C:List (List Int)}{e:Int}(h:HandA S m C e)(h1:m<usedP S):C= []/\e=171:=by
 rcases h with⟨_,h⟩|⟨h,_⟩
 ·exact h
 ·omega
theorem HandA.plc{S:List Shp}{m:Int}{C:List (List Int)}{e:Int}(h:HandA S m C e)(h1: ¬m<usedP S): ∃L er,PlcA (lightP S) (m - usedP S) L er/\((er=0/\C=atP (usedP S) 0 S L/\e=0)\/(er≠0/\C= []/\e=171)):=by
 rcases h with⟨h,_⟩|⟨_,h⟩
 ·exact absurd h h1
 ·exact h
theorem radmit_good{A:Option Addr}{n c:Nat}{l:List (Sh×Task)}{m:Nat}{S':List Shp}{C:List (List Int)}{er:Int}(wf:World)(hn:l.length=n)(h8:n<=8)(hm1:1<=m)(hm8:m<=8)(h:IsTs wf A l)(hA:AdmA (pairT l) (m:Int) S' C er):
    Calls Tryz.prog 13 #[.slice A n c, .int .i64 m] wf fun e w'=> ∃A1 n1 c1 A2 n2 c2,e= .returned (.tuple #[.agg #[.slice A1 n1 c1, .slice A2 n2 c2], .int .i64 er])/\IsPl w' A1 n1 c1 A2 n2 c2 S' C/\Below wf.heap.size wf w':=by
  have HM:=Lib.hid (show MayA (pairT l).length (m:Int)from⟨by rw[pairT_len];omega,by omega,by omega⟩)
  obtain⟨S,hS⟩: ∃S,S=shpsT (pairT l):=⟨_,rfl⟩;obtain⟨r,hr⟩: ∃r,r=wf.heap.size:=⟨_,rfl⟩;obtain⟨w0,hw0⟩: ∃w0,w0=((wf.alloc (.cells #[.slice none 0 0, .slice none 0 0] 28)).alloc (.cells #[.slice none 0 0, .slice none 0 0] 28)).alloc (.cells #[.slice none 0 0, .slice none 0 0] 28):=⟨_,rfl⟩;have hs0:w0.heap.size=r+1+1+1:=by rw[hw0,hr];simp
  have hr2:RowV (r+1+1) 28 [.slice none 0 0, .slice none 0 0] w0:=by
    have:=RowV.new ((wf.alloc (.cells #[.slice none 0 0, .slice none 0 0] 28)).alloc (.cells #[.slice none 0 0, .slice none 0 0] 28)) 28 [.slice none 0 0, .slice none 0 0];rw[hw0,hr]
    simpa using this
  have hr1:RowV (r+1) 28 [.slice none 0 0, .slice none 0 0] w0:=by
    have:=RowV.new (wf.alloc (.cells #[.slice none 0 0, .slice none 0 0] 28)) 28 [.slice none 0 0, .slice none 0 0];rw[hw0,hr];refine RowV.alloc ?_ _
    simpa using this
  have hr0:RowV r 28 [.slice none 0 0, .slice none 0 0] w0:=by rw[hw0,hr];exact((RowV.new wf _ _).alloc _).alloc _
  have hb0:Below wf.heap.size wf w0:=by rw[hw0];exact((below_alloc _).trans ((below_alloc _).mono (by simp))).trans ((below_alloc _).mono (by simp;omega))
  have I0:=Lib.hid (show IAd wf r (.slice none 0 0) (.slice none 0 0) w0 from⟨hb0,hr0,hr1,hr2⟩)
  have O0:=Lib.hid (show OwnS w0 (r+1+1+1) (.slice none 0 0) (S.take 0)from OwnS.nil _ _)
  have HRs:=Lib.hid hr;have HW0:=Lib.hid hw0;have HSs:=Lib.hid hS;have HT:=Lib.hid (fun W (b:Below wf.heap.size wf W)=>h.via b)
  have HN:=Lib.hid hn;have HA:=Lib.hid hA;have H8:=Lib.hid h8;have HM8:=Lib.hid (show 1<=m/\m<=8 from⟨hm1,hm8⟩)
  have HSl:=Lib.hid (show S.length=n by rw[hS,shpsT_len,pairT_len,hn])
  clear hn h hA hS hr hs0 hr0 hr1 hr2 hb0;go_enter Tryz.func13,Tryz.ntmps13;go_wp2;clear hw0;go_loopw [8] (fun iv wr=> ∃(j d:Nat) (F:Option Addr),j<=n/\iv= .int .i64 j/\Hid (IAd wf r (.slice F j d) (.slice none 0 0) wr)/\Hid (OwnS wr (r+1+1+1) (.slice F j d) (S.take j))/\Hid (fstX (((pairT l).map lowX).take j)=0)) (fun i _=>n - (intOf i).toNat)
  case atStart=>exact⟨0,0,none,Nat.zero_le _,rfl,Lib.hid (by rw[<-HW0.out];exact I0.out),Lib.hid (by rw[<-HW0.out];exact O0.out),Lib.hid (by simp[fstX])⟩
  case round=>
    clear I0 O0;obtain⟨j,d,F,hj,rfl,HI,HO,HZ⟩:=hrel;have h8:n<=8:=H8.out
    by_cases hlt:j<n
    · obtain⟨b,off,P,np,pc,E,ne,ec,Ff,nf,fc,R,nr,rc,T,rfl,hbg,hek,c0,c1,c2,c3,c4,c5⟩:=(HT.out wr HI.out.bel).tks.at_ (k:=j) (by rw[HN.out];exact hlt)
      have HD:=Lib.hid ((HT.out wr HI.out.bel).each _ (List.mem_of_getElem? hek))
      have HK:=Lib.hid hek;obtain⟨s,hs⟩: ∃s,s=shapeT T:=⟨_,rfl⟩;obtain⟨y,hy⟩: ∃y,y=lowX T:=⟨_,rfl⟩;have HZN:=Lib.hid (fstX_next HZ.out (show((pairT l).map lowX)[j]? =some y by rw[List.getElem?_map,pairT_at HK.out,hy];rfl))
      have HSj:=Lib.hid (show S[j]? =some s by rw[hs,HSs.out];exact shpsT_at (pairT_at HK.out))
      have CS:=Lib.hid (rshape_any _ T wr HD.out);rw[<-hs,<-hy]at CS;unfold Sh.arg Shp.val at CS;clear hs hy hek hbg;obtain⟨t,lg,mo,dd,p⟩:=s;dsimp only at CS;obtain⟨per,hper⟩: ∃q,q=T.period:=⟨_,rfl⟩;obtain⟨dea,hdea⟩: ∃q,q=T.deadline:=⟨_,rfl⟩;rw[<-hper,<-hdea]at CS;rw[<-hper]at c0;rw[<-hdea]at c1;clear hper hdea HD HK;go_wp2_with fail;refine CS.out.mono ?_
      rintro e w1 ⟨rfl,b1⟩;have HI1:=Lib.hid (HI.out.next HRs.out b1);have HO1:=Lib.hid (HO.out.below b1);obtain⟨w2,hw2⟩: ∃w2,w2=w1.alloc (.cells #[.int .i64 t, .int .i64 lg, .int .i64 mo, .int .i64 dd, .int .i64 p] 44):=⟨_,rfl⟩;have hb2:Below w1.heap.size w1 w2:=by rw[hw2];exact below_alloc _
      have HI2:=Lib.hid (HI1.out.next HRs.out hb2);have HO2:=Lib.hid (HO1.out.below hb2);have HW2:=Lib.hid hw2;have HS2:=Lib.hid (show w2.heap.size=w1.heap.size+1 by rw[hw2];simp)
      clear b1 c0 c1 c2 c3 c4 c5 CS hb2 HI HO HI1 HO1
      by_cases hy0:y=0
      · subst hy0;have hr2:=HI2.out.r2;have t0:=hr2.cell (j:=0) rfl;rw[HRs.out,hw2]at t0;have HZ2:=Lib.hid (HZN.out.1 rfl);have hSn:S.take (j+1)=S.take j++ [⟨t,lg,mo,dd,p⟩]:=take_one HSj.out;have HSn:=Lib.hid hSn;have hlen:(S.take j).length=j:=by rw[List.length_take,HSl.out];omega
        have HLn:=Lib.hid hlen;clear hr2 hSn hlen
        go_wp2_with(at_builtin;rw[<-HW2.out];refine wpList_pushS rfl _ _ rfl w2 (r+1+1+1) _ _ t lg mo dd p j HLn.out (by omega) HO2.out HI2.out.lt rfl (by rw[HS2.out];rfl) ?_;intro F' d' w7 hO7 hb7;have hi7:=HI2.out.below HRs.out hb7;have HI7:=Lib.hid hi7;have HO7:=Lib.hid hO7;have q0:=hi7.r2.cell (j:=0) rfl;have q1:=hi7.r2.frozen 0;rw[HRs.out]at q0 q1;clear hO7 hb7 hi7)
        rw[<-HRs.out];go_roundw
        case rel=>exact⟨j+1,d',F',by omega,by go_num,Lib.hid (HI7.out.set0 HRs.out _),Lib.hid (by rw[HSn.out];exact own_grown HO7.out (grown_set _) (fun g hv e2=>own_ne HO7.out HI7.out.r2 plan_ne3 (by rw[e2];exact hv))),HZ2⟩
        case measure=>simp[intOf];omega
      · have hne:(y==0)=false:=by simpa using hy0
        have hne2:(y !=0)=true:=by simpa using hy0
        have HQ:=Lib.hid (HA.out.low HM.out (by rw[HZN.out.2 hy0];exact hy0))
        rw[HZN.out.2 hy0]at HQ;obtain⟨rfl,rfl,rfl⟩:=HQ.out;clear HQ hy0;have hia:=HI2.out;have x0:=hia.r0.cell (j:=0) rfl;have x1:=hia.r0.cell (j:=1) rfl;have f0:=hia.r0.frozen 0;have f1:=hia.r0.frozen 1;have y0:=hia.r1.cell (j:=0) rfl;have y1:=hia.r1.cell (j:=1) rfl;have HIA:=Lib.hid hia;rw[HRs.out,hw2]at x0 x1 f0 f1 y0 y1;clear hia;go_wp2;have HIE:=Lib.hid (HIA.out.ret HRs.out);rw[HRs.out,HW2.out]at HIE;refine bodyPost_ret (ret_plan rfl rfl rfl HIE.out.1) rfl ⟨none,0,0,none,0,0,rfl,IsPl.nil _,HIE.out.2⟩
    · obtain rfl:n=j:=by omega
      have hSt:S.take n=S:=List.take_of_length_le (by rw[HSl.out];exact Nat.le_refl _)
      have hZt:fstX ((pairT l).map lowX)=0:=by
        have:=HZ.out;rw[List.take_of_length_le (by rw[List.length_map,pairT_len,HN.out];exact Nat.le_refl _)]at this
        exact this
      rw[hSt]at HO;have HLW:=Lib.hid hZt;have HIA:=Lib.hid (fun W (b:Below wr.heap.size wr W)=>HI.out.next HRs.out b)
      have HSW:=Lib.hid (fun W (b:Below wr.heap.size wr W)=>HO.out.below b)
      have be:Below wr.heap.size wr (wr.alloc (.cells #[] 44)):=below_alloc _;have B0:=Lib.hid be;have L0:=Lib.hid (show OwnS (wr.alloc (.cells #[] 44)) wr.heap.size (.slice (some ⟨wr.heap.size,0,none⟩) 0 0) (lightP (S.take 0))from⟨rfl, .inr ⟨wr.heap.size,0, #[],rfl,Nat.le_refl _,heap_alloc_new wr _,Nat.le_refl _,by simp[maxLen],rfl,rfl⟩⟩)
      clear hSt hZt hlt hj HZ be;go_wp2;go_loopw [11,12,13] (fun uv lv iv wx=> ∃(i k dl:Nat) (Fl:Option Addr) (u:Int),i<=n/\iv= .int .i64 i/\uv= .int .i64 u/\lv= .slice Fl k dl/\Hid (u=usedP (S.take i))/\(0<=u/\u<=64)/\k<=i/\Hid (k=(lightP (S.take i)).length)/\Hid (OwnS wx wr.heap.size (.slice Fl k dl) (lightP (S.take i)))/\Hid (fstX ((S.map faultS).take i)=0)/\Hid (Below wr.heap.size wr wx)) (fun _ _ v _=>n - (intOf v).toNat)
      case atStart=>exact⟨0,0,0,_,0,Nat.zero_le _,rfl,rfl,rfl,Lib.hid (by simp[usedP]),by omega,Nat.le_refl _,Lib.hid (by simp[lightP]),L0,Lib.hid (by simp[fstX]),B0⟩
      case round=>
        clear B0 L0;obtain⟨i,k,dl,Fl,u,hi,rfl,rfl,rfl,HU,hu,hki,HKl,HL,HZf,HB⟩:=hrel;have h8:n<=8:=H8.out;have hia0:=HIA.out _ HB.out;have t0:=hia0.r2.cell (j:=0) rfl;rw[HRs.out]at t0;clear hia0
        by_cases hlt:i<n
        · obtain⟨b,off,t,lg,mo,dd,p,rfl,hbg,hek,c0,c1,c2,c3,c4⟩:=(HSW.out _ HB.out).shps.at_ (k:=i) (by rw[HSl.out];exact hlt)
          obtain⟨fs,hfs⟩: ∃y,y=faultS ⟨t,lg,mo,dd,p⟩:=⟨_,rfl⟩;obtain⟨cs,hcs⟩: ∃y,y=coresS ⟨t,lg,mo,dd,p⟩:=⟨_,rfl⟩;have HZN:=Lib.hid (fstX_next HZf.out (show(S.map faultS)[i]? =some fs by rw[List.getElem?_map,hek,hfs];rfl))
          have KC:=Lib.hid (fun W=>rcores_any ⟨t,lg,mo,dd,p⟩ W)
          rw[<-hfs,<-hcs]at KC;unfold Shp.val at KC;dsimp only at KC;have HFS:=Lib.hid hfs;have HCS:=Lib.hid hcs;have HEK:=Lib.hid hek;have hbx:Below wr.heap.size wr (wr.alloc (.cells #[.int .i64 t, .int .i64 lg, .int .i64 mo, .int .i64 dd, .int .i64 p] 44)):=below_alloc _;have HBx:=Lib.hid hbx;have HRS:=Lib.hid (RowV.new wr 44 [.int .i64 t, .int .i64 lg, .int .i64 mo, .int .i64 dd, .int .i64 p]);clear hfs hcs hek hbg hbx;go_wp2_with fail;refine(KC.out _).mono ?_
          rintro e w1 ⟨rfl,b1⟩;have HB1:=Lib.hid (HB.out.trans ((HBx.out.trans (b1.mono HBx.out.size)).mono HB.out.size));have HL1:=Lib.hid ((HL.out.below HBx.out).below b1);have HRS:=Lib.hid (HRS.out.below b1 (by simp))
          have s0:=HRS.out.cell (j:=0) rfl;have s1:=HRS.out.cell (j:=1) rfl;have s2:=HRS.out.cell (j:=2) rfl;have s3:=HRS.out.cell (j:=3) rfl;have s4:=HRS.out.cell (j:=4) rfl;clear b1 KC c0 c1 c2 c3 c4 t0 HBx
          by_cases hf0:fs=0
          · subst hf0;have HZ2:=Lib.hid (HZN.out.1 rfl);have HH:=Lib.hid (heavy_is HFS.out.symm);have HLN:=Lib.hid (lightP_next HEK.out);have HUN:=Lib.hid (usedP_next HEK.out);have hcb:=coresS_pos HFS.out.symm;rw[<-HCS.out]at hcb HUN;rw[HH.out]at HLN HUN;have hgd: ∀s∈S.take (i+1),faultS s=0:=fun s hs=>by
              have:=HZ2.out;rw[<-List.map_take]at this;exact fstX_zero.mp this _ (List.mem_map.mpr ⟨s,hs,rfl⟩)
            have hub:=usedP_leR hgd;rw[List.length_take,HSl.out]at hub
            by_cases hdt:t<=dd
            · have e1:decide (t<=dd)=true:=decide_eq_true hdt;rw[decide_eq_false (show¬dd<t by omega),if_neg (by simp)]at HLN HUN
              have HKl2:=Lib.hid (show k+1=(lightP (S.take (i+1))).length by rw[HLN.out,List.length_append,<-HKl.out];rfl)
              have HU2:=Lib.hid (show u=usedP (S.take (i+1)) by rw[HUN.out,HU.out];omega)
              have hb1s:=HB1.out.size;have HKl':=Lib.hid HKl.out.symm;clear hcb hgd hub hdt HH
              go_wp2_with(at_builtin;refine wpList_pushS rfl _ _ rfl w1 _ _ _ t lg mo dd p k HKl'.out (by omega) HL1.out hb1s rfl rfl ?_;intro F' d' w7 hO7 hb7;have HO7:=Lib.hid hO7;have HB7:=Lib.hid (HB1.out.trans hb7);clear hO7 hb7)
              go_roundw
              case rel=>exact⟨i+1,k+1,d',F',u,by omega,by go_num,rfl,rfl,HU2,hu,by omega,HKl2,Lib.hid (by rw[HLN.out];exact HO7.out),HZ2,HB7⟩
              case measure=>simp[intOf];omega
            · have e1:decide (t<=dd)=false:=decide_eq_false hdt;rw[decide_eq_true (show dd<t by omega),if_pos rfl]at HLN HUN
              rw[List.append_nil]at HLN;have hu2:u+cs=usedP (S.take (i+1)):=by rw[HUN.out,HU.out]
              have HU2:=Lib.hid hu2;have hub2:0<=u+cs/\u+cs<=64:=by omega
              have hwr:IntKind.i64.wrap (u+cs)=u+cs:=IntWalk.i64_in _ (by omega)
              clear hcb hgd hub hdt HH hu2;go_wp2;go_roundw
              case rel=>exact⟨i+1,k,dl,Fl,u+cs,by omega,by go_num,by first|rfl|(simp[hwr])|go_num,rfl,HU2,hub2,by omega,Lib.hid (by rw[HLN.out];exact HKl.out),Lib.hid (by rw[HLN.out];exact HL1.out),HZ2,HB1⟩
              case measure=>simp[intOf];omega
          · have hne:(fs==0)=false:=by simpa using hf0
            have hne2:(fs !=0)=true:=by simpa using hf0
            have hfa:fstX (S.map faultS)=fs:=HZN.out.2 hf0;have HQ:=Lib.hid (HA.out.fault HM.out HLW.out (by rw[<-HSs.out,hfa];exact hf0))
            rw[<-HSs.out,hfa]at HQ;obtain⟨rfl,rfl,rfl⟩:=HQ.out;clear HQ hf0 hfa s0 s1 s2 s3 s4;have hia:=HIA.out _ HB1.out;have x0:=hia.r0.cell (j:=0) rfl;have x1:=hia.r0.cell (j:=1) rfl;have f0:=hia.r0.frozen 0;have f1:=hia.r0.frozen 1;have y0:=hia.r1.cell (j:=0) rfl;have y1:=hia.r1.cell (j:=1) rfl;have HIA:=Lib.hid hia;rw[HRs.out]at x0 x1 f0 f1 y0 y1;clear hia;go_wp2;have HIE:=Lib.hid (HIA.out.ret HRs.out);rw[HRs.out]at HIE;refine bodyPost_ret (ret_plan rfl rfl rfl HIE.out.1) rfl ⟨none,0,0,none,0,0,rfl,IsPl.nil _,HIE.out.2⟩
        · obtain rfl:n=i:=by omega
          have hSt:S.take n=S:=List.take_of_length_le (by rw[HSl.out];exact Nat.le_refl _)
          have hZt:fstX (S.map faultS)=0:=by
            have:=HZf.out;rw[List.take_of_length_le (by rw[List.length_map,HSl.out];exact Nat.le_refl _)]at this
            exact this
          rw[hSt]at HU HKl HL;have HG:=Lib.hid (HA.out.hand HM.out HLW.out (by rw[<-HSs.out];exact hZt))
          rw[<-HSs.out]at HG;have HGD:=Lib.hid (show∀s∈S,faultS s=0 from fun s hs=>fstX_zero.mp hZt _ (List.mem_map.mpr ⟨s,hs,rfl⟩))
          clear hSt hZt hlt hi HZf
          by_cases hfull:(m:Int)<u
          · have hd:decide (u>(m:Int))=true:=decide_eq_true hfull;have HQ:=HG.out.1.full (by rw[<-HU.out];exact hfull)
            obtain⟨rfl,rfl⟩:=HQ;have hS0:=HG.out.2;rw[if_neg (by decide)]at hS0
            subst hS0;clear hfull HG;have hia:=HIA.out _ HB.out;have x0:=hia.r0.cell (j:=0) rfl;have x1:=hia.r0.cell (j:=1) rfl;have f0:=hia.r0.frozen 0;have f1:=hia.r0.frozen 1;have y0:=hia.r1.cell (j:=0) rfl;have y1:=hia.r1.cell (j:=1) rfl;have HIA:=Lib.hid hia;rw[HRs.out]at x0 x1 f0 f1 y0 y1;clear hia;go_wp2;have HIE:=Lib.hid (HIA.out.ret HRs.out);rw[HRs.out]at HIE;refine bodyPost_ret (ret_plan rfl rfl rfl HIE.out.1) rfl ⟨none,0,0,none,0,0,rfl,IsPl.nil _,HIE.out.2⟩
          · have hd:decide (u>(m:Int))=false:=decide_eq_false hfull;obtain⟨L,ep,hP,hway⟩:=HG.out.1.plc (by rw[<-HU.out];exact hfull)
            rw[<-HU.out]at hP hway;have hm8:=HM8.out;have hwr:IntKind.i64.wrap ((m:Int) - u)=(m:Int) - u:=IntWalk.i64_in _ (by omega)
            have KP:=Lib.hid (rplace16_any (c:=dl) ((m:Int) - u) hP wr HKl.out.symm (by omega) HL.out.shps)
            have HPL:=Lib.hid hP;have HWy:=Lib.hid hway;clear hP hway hfull;go_wp2_with fail;refine KP.out.mono ?_
            rintro e w2 ⟨Fa,na,da,rfl,hLa,hOa,b2⟩;have HB2:=Lib.hid (HB.out.trans (b2.mono HB.out.size));have hb2s:=b2.size;have hbs:=HB.out.size;clear b2 KP
            by_cases hp0:ep=0
            · subst hp0;obtain⟨rfl,rfl⟩:C=atP u 0 S L/\er=0:=by
                rcases HWy.out with⟨_,h1,h2⟩|⟨h1,_⟩
                · exact⟨h1,h2⟩
                · exact absurd rfl h1
              have hS0:=HG.out.2;rw[if_pos rfl]at hS0;subst hS0;have hia2:=HIA.out _ HB2.out;have HI2:=Lib.hid hia2;have HLa:=Lib.hid (show L.length=na/\na=(lightP S').length from⟨hLa,by rw[<-hLa];exact HPL.out.len.1⟩)
              obtain⟨b3,hb3⟩: ∃b,b=w2.heap.size:=⟨_,rfl⟩;have HB3:=Lib.hid hb3;have hlt3:=hia2.lt;have HOS:=Lib.hid (fun W (ht:Turn1 (r+1+1) w2 W)=>show OwnS W (r+1+1+1) (.slice F n d) S' from own_turn (HSW.out _ HB2.out) ht (by omega))
              have HOA:=Lib.hid (fun W (ht:Turn1 (r+1+1) w2 W)=>show OwnI W wr.heap.size (.slice Fa na da) L from own_turn hOa ht (by have:=HI.out.lt;omega))
              have HRP0:=Lib.hid hia2.r2;have HR0:=Lib.hid (fun W (ht:Turn1 (r+1+1) w2 W)=>(show RowV r 28 [.slice none 0 0, .slice none 0 0] W from(ht.block r (by omega) (by omega)).trans hia2.r0))
              have HBE:=Lib.hid (fun W (ht:Turn1 (r+1+1) w2 W)=>(show Below wf.heap.size wf W from⟨ht.os.trans hia2.bel.os,ht.tape.trans hia2.bel.tape,ht.output.trans hia2.bel.output,Nat.le_trans hia2.bel.size ht.size,fun i hi=>(ht.block i (by have:=HRs.out;omega) (by have:=HRs.out;omega)).trans (hia2.bel.block i hi)⟩))
              clear hia2 hLa hOa HWy HG;go_wp2;go_loopw [19,20,21] (fun nv kv iv wx=> ∃(i k dg:Nat) (G:Option Addr) (Lv:List Value) (nx:Nat),i<=n/\iv= .int .i64 i/\kv= .int .i64 k/\nv= .int .i64 nx/\Hid (Lv.length=i)/\Hid ((nx:Int)=usedP (S'.take i))/\nx<=64/\Hid (k=(lightP (S'.take i)).length)/\k<=i/\Hid (Turn1 (r+1+1) w2 wx)/\Hid (RowV (r+1+1) 28 [.slice F n d, .slice G i dg] wx)/\Hid (OwnC wx b3 (.slice G i dg) Lv)/\Hid (EachC wx b3 Lv (atP u 0 S' L))) (fun _ _ v _=>n - (intOf v).toNat)
              case atStart=>exact⟨0,0,0,none, [],0,Nat.zero_le _,rfl,rfl,rfl,Lib.hid rfl,Lib.hid (by simp[usedP]),by omega,Lib.hid (by simp[lightP]),Nat.le_refl _,Lib.hid (Turn1.refl _ _),HRP0,Lib.hid ⟨rfl, .inl ⟨rfl,rfl⟩⟩,Lib.hid (fun k x r hx=>by simp at hx)⟩
              case round=>
                clear HRP0 hb2s hbs hd;obtain⟨i,k,dg,G,Lv,nx,hi,rfl,rfl,rfl,HLn,HNX,hnx,HKi,hki,HTn,HRP,HOC,HEC⟩:=hrel;have h8:n<=8:=H8.out;have hrp:=HRP.out;have t0:=hrp.cell (j:=0) rfl;have t1:=hrp.cell (j:=1) rfl;rw[HRs.out]at t0 t1;clear hrp
                by_cases hlt:i<n
                · obtain⟨b,off,t,lg,mo,dd,p,rfl,hbg,hek,c0,c1,c2,c3,c4⟩:=(HOS.out _ HTn.out).shps.at_ (k:=i) (by rw[HSl.out];exact hlt)
                  obtain⟨fs,hfs⟩: ∃y,y=faultS ⟨t,lg,mo,dd,p⟩:=⟨_,rfl⟩;obtain⟨cs,hcs⟩: ∃y,y=coresS ⟨t,lg,mo,dd,p⟩:=⟨_,rfl⟩;have hf0:fs=0:=hfs.trans (HGD.out _ (List.mem_of_getElem? hek))
                  subst hf0;have KC:=Lib.hid (fun W=>rcores_any ⟨t,lg,mo,dd,p⟩ W)
                  rw[<-hfs,<-hcs]at KC;unfold Shp.val at KC;dsimp only at KC;have HH:=Lib.hid (heavy_is hfs.symm);have HLNx:=Lib.hid (lightP_next hek);have HUN:=Lib.hid (usedP_next hek);have HAT:=Lib.hid (atP_at (u:=u) (nx:=0) (L:=L) hek);have hcb:=coresS_pos hfs.symm;have hub:=usedP_take HGD.out (i+1);have hus:=usedP_leR HGD.out;rw[HSl.out]at hus;rw[<-hcs]at hcb HUN HAT;rw[HH.out]at HLNx HUN HAT;have hbx:Below wr.heap.size wr (wr.alloc (.cells #[.int .i64 t, .int .i64 lg, .int .i64 mo, .int .i64 dd, .int .i64 p] 44)):=below_alloc _;have HBx:=Lib.hid hbx;have HRS:=Lib.hid (RowV.new wr 44 [.int .i64 t, .int .i64 lg, .int .i64 mo, .int .i64 dd, .int .i64 p]);have HEK:=Lib.hid hek;clear hfs hcs hek hbg hbx;go_wp2_with fail;refine(KC.out _).mono ?_
                  rintro e w1 ⟨rfl,b1⟩;have HB1:=Lib.hid (HBx.out.trans (b1.mono HBx.out.size));have HRS:=Lib.hid (HRS.out.below b1 (by simp))
                  have s0:=HRS.out.cell (j:=0) rfl;have s3:=HRS.out.cell (j:=3) rfl;have HTn:=Lib.hid (HTn.out.bel (HB1.out.mono HTn.out.size));have HRP:=Lib.hid (show RowV (r+1+1) 28 [.slice (some ⟨b,off,none⟩) n d, .slice G i dg] w1 from heap_below HB1.out HRP.out)
                  have HOC:=Lib.hid (show OwnC w1 b3 (.slice G i dg) Lv from own_below HOC.out HB1.out)
                  have HEC:=Lib.hid (HEC.out.grown (grown_below HB1.out) (fun e he=>by cases he))
                  have hsz1:b3<=w1.heap.size:=by rw[HB3.out];exact HTn.out.size
                  have HSZ:=Lib.hid hsz1;clear b1 KC c0 c1 c2 c3 c4 t0 t1 HBx HB1 hsz1;have hO0:OwnI (w1.alloc (.cells #[] 3)) w1.heap.size (.slice (some ⟨w1.heap.size,0,none⟩) 0 0) []:=⟨rfl, .inr ⟨w1.heap.size,0, #[],rfl,Nat.le_refl _,heap_alloc_new w1 _,Nat.le_refl _,by simp[maxLen],rfl,rfl⟩⟩
                  have be:Below w1.heap.size w1 (w1.alloc (.cells #[] 3)):=below_alloc _;have s0':=((HRS.out.below be (HRS.out.lt))).cell (j:=0) rfl;have s3':=((HRS.out.below be (HRS.out.lt))).cell (j:=3) rfl;have HO0:=Lib.hid hO0;have HBe:=Lib.hid be;have HSe:=Lib.hid (show(w1.alloc (.cells #[] 3)).heap.size=w1.heap.size+1 by simp)
                  clear hO0 be
                  by_cases hdt:t<=dd
                  · have e1:decide (t<=dd)=true:=decide_eq_true hdt;rw[decide_eq_false (show¬dd<t by omega),if_neg (by simp)]at HLNx HUN HAT
                    have hkl:k<na:=by
                      rw[HLa.out.2,HKi.out];have:=HLNx.out;have h2:(lightP (S'.take (i+1))).length<=(lightP S').length:=((List.take_sublist _ _).filter _).length_le;rw[this,List.length_append]at h2;simp at h2;omega
                    have hIA:=(HOA.out _ (HTn.out.bel (HBe.out.mono HTn.out.size))).ints;obtain⟨b5,off5,zz,hA5,hb5,hzz,y5⟩:=hIA.at_ (k:=k) (by rw[HLa.out.1];exact hkl)
                    subst hA5;have hzb:0<=zz/\zz<(m:Int) - u:=HPL.out.len.2 zz (List.mem_of_getElem? hzz)
                    have hci:(atP u 0 S' L)[i]? =some [u+zz]:=by
                      rw[HAT.out,<-HKi.out];congr 2;have:(L.drop k).headD 0=zz:=by
                        rw[List.headD_eq_head?_getD,List.head?_drop,hzz]
                        rfl
                      rw[this]
                    have HCi:=Lib.hid hci;have hwr:IntKind.i64.wrap (u+zz)=u+zz:=IntWalk.i64_in _ (by omega)
                    have HB3s:=HSZ;have HKi2:=Lib.hid (show k+1=(lightP (S'.take (i+1))).length by rw[HLNx.out,List.length_append,<-HKi.out];rfl)
                    have HNX2:=Lib.hid (show(nx:Int)=usedP (S'.take (i+1)) by rw[HUN.out,<-HNX.out];omega)
                    clear hIA hb5 hzz hci hcb hub hus hdt HH;obtain⟨ci,hcie⟩: ∃x,x= [u+zz]:=⟨_,rfl⟩;rw[<-hcie]at HCi;have HCIE:=Lib.hid hcie
                    go_wp2_with(at_builtin;first
                      |(rw[<-hwa];refine wpList_append_plainS rfl _ _ 26 _ _ rfl rfl rfl HRUN.out ?_)
                      | (refine wpList_push rfl _ _ rfl _ w1.heap.size _ [] (u + zz) 0 rfl (by omega) HO0.out HBe.out.size rfl (by rw [HSe.out]; rfl) ?_
                         intro Fo do' wt hOt hbt
                         have HOt:=Lib.hid hOt;have HBt:=Lib.hid (HBe.out.trans hbt);clear hOt hbt;have HOo:=Lib.hid (show OwnI wt b3 (.slice Fo (0+1) do') ci from by rw[HCIE.out];exact own_less HOt.out HSZ.out)
                         have HTn:=Lib.hid (HTn.out.bel (HBt.out.mono HTn.out.size));have HRP:=Lib.hid (show RowV (r+1+1) 28 [.slice (some ⟨b,off,none⟩) n d, .slice G i dg] wt from heap_below HBt.out HRP.out)
                         have HOC:=Lib.hid (show OwnC wt b3 (.slice G i dg) Lv from own_below HOC.out HBt.out)
                         have HEC:=Lib.hid (HEC.out.grown (grown_below HBt.out) (fun e he=>by cases he))
                         have HSZ:=Lib.hid (Nat.le_trans HSZ.out HBt.out.size);have hRPt:=HRP.out;have t0:=hRPt.cell (j:=0) rfl;have t1:=hRPt.cell (j:=1) rfl;rw[HRs.out]at t0 t1;obtain⟨wa,hwa⟩: ∃x,x=wt.alloc (.cells #[(.slice Fo (0+1) do')] 40):=⟨_,rfl⟩
                         have hba:Below wt.heap.size wt wa:=by rw[hwa];exact below_alloc _
                         have hga:wa.heap[wt.heap.size]? =some (.cells #[(.slice Fo (0+1) do')] 40 (0,0)):=by rw[hwa];exact heap_alloc_new _ _
                         have hOCa:OwnC wa b3 (.slice G i dg) Lv:=own_below HOC.out hba;have hs3:b3<=wa.heap.size:=Nat.le_trans HSZ.out hba.size;obtain⟨F',d',wz,hrun,hOCz,hgz⟩:=push_list HLn.out hOCa hga rfl (by omega) hs3
                         have hne: ∀e,(Value.slice G i dg).ownBlock=some e->b3<=e/\ ∃cs ty,wa.heap[e]? =some (.cells cs ty (0,0))/\ty=40:=fun e he=>by
                           obtain⟨h1,cur,h2⟩:=own_at hOCa he;exact⟨h1,cur,_,h2,rfl⟩
                         have hRPa:RowV (r+1+1) 28 [.slice (some ⟨b,off,none⟩) n d, .slice G i dg] wa:=heap_below hba HRP.out;have hRPz:RowV (r+1+1) 28 [.slice (some ⟨b,off,none⟩) n d, .slice G i dg] wz:=heap_grown hgz hRPa (own_ne hOCa hRPa plan_ne1);have hEa:EachC wa b3 Lv (atP u 0 S' L):=HEC.out.grown (grown_below hba) (fun e he=>by cases he)
                         have hOa:OwnI wa b3 (.slice Fo (0+1) do') ci:=own_below HOo.out hba
                         have hgi: ∀e,(Value.slice G i dg).ownBlock=some e-> ∃cs ty,wa.heap[e]? =some (.cells cs ty (0,0))/\3≠ty:=fun e he=>by
                           obtain⟨_,cs,ty,h1,h2⟩:=hne e he;exact⟨cs,ty,h1,by rw[h2];exact ints_ne⟩
                         have hEz:EachC wz b3 Lv (atP u 0 S' L):=hEa.grown hgz hgi;have hOz:OwnI wz b3 (.slice Fo (0+1) do') ci:=own_grown hOa hgz fun g hv e2=>by
                           obtain⟨cs,ty,h1,h2⟩:=hgi g e2;exact own_ne hOa h1 h2 hv
                         have hEs:EachC wz b3 (Lv++ [(.slice Fo (0+1) do')]) (atP u 0 S' L):=EachC.snoc hEz HLn.out HCi.out (by rw[show ci.length=0+1 by rw[HCIE.out];rfl];exact⟨_,_,rfl,hOz⟩)
                         have HEs:=Lib.hid (hEs.grown (grown_set (q:=r+1+1) (k:=1) (.slice F' (i+1) d')) (fun e he=>by injection he with he;subst he;exact⟨_,_,hRPz,plan_ne2⟩))
                         have HOCs:=Lib.hid (show OwnC (wz.setCell ⟨r+1+1,1,none⟩ (.slice F' (i+1) d')) b3 (.slice F' (i+1) d') (Lv++ [(.slice Fo (0+1) do')])from own_grown hOCz (grown_set _) (fun g hv e2=>own_ne hOCz hRPz plan_ne1 (by rw[e2];exact hv)))
                         have HTs:=Lib.hid (show Turn1 (r+1+1) w2 (wz.setCell ⟨r+1+1,1,none⟩ (.slice F' (i+1) d'))from((HTn.out.bel (hba.mono HTn.out.size)).grow hgz (fun e he=>by rw[<-HB3.out];exact(hne e he).1)).set 1 _)
                         have HRPs:=Lib.hid (show RowV (r+1+1) 28 [.slice (some ⟨b,off,none⟩) n d, .slice F' (i+1) d'] (wz.setCell ⟨r+1+1,1,none⟩ (.slice F' (i+1) d'))from hRPz.set 1 _)
                         have hcz:=hRPz.cell (j:=1) rfl;have hfz:=hRPz.frozen 1;have HRUN:=Lib.hid hrun;rw[HRs.out]at hcz hfz;clear hrun hOCz hgz hne hRPa hRPz hEa hOa hgi hEz hOz hEs hba hga hOCa hs3))
                    rw[<-HRs.out];go_roundw
                    case rel=>exact⟨i+1,(k+1),d',F',Lv++ [(.slice Fo (0+1) do')],nx,by omega,by go_num,by go_num,by go_num,Lib.hid (by rw[List.length_append,HLn.out];rfl),Lib.hid (HNX2.out),by omega,Lib.hid (HKi2.out),by omega,HTs,HRPs,HOCs,HEs⟩
                    case measure=>simp[intOf];omega
                  · have e1:decide (t<=dd)=false:=decide_eq_false hdt;rw[decide_eq_true (show dd<t by omega),if_pos rfl]at HLNx HUN HAT
                    rw[List.append_nil]at HLNx;rw[Int.zero_add,<-HNX.out]at HAT;obtain⟨cn,rfl⟩: ∃cn:Nat,cs=(cn:Int):=⟨cs.toNat,by omega⟩
                    rw[Int.toNat_natCast]at HAT;have hnb:nx+cn<=64:=by have:=HUN.out;have:=HNX.out;omega
                    have HCi:=HAT;have HKi2:=Lib.hid (show k=(lightP (S'.take (i+1))).length by rw[HLNx.out];exact HKi.out)
                    have HNX2:=Lib.hid (show((nx+cn:Nat):Int)=usedP (S'.take (i+1)) by rw[HUN.out,<-HNX.out];omega)
                    have hcn8:cn<=8:=by omega
                    obtain⟨ci,hcie⟩: ∃x,x=upto (nx:Int) cn:=⟨_,rfl⟩;rw[<-hcie]at HCi;have HCIE:=Lib.hid hcie;clear hcb hub hus hdt HH hcie;go_wp2;clear s0 s3 s0' s3' e1;go_loopw [19,25,26] (fun nv ov cv wx=> ∃(x do':Nat) (Fo:Option Addr),x<=cn/\cv= .int .i64 x/\nv= .int .i64 ((nx+x:Nat):Int)/\ov= .slice Fo x do'/\Hid (OwnI wx w1.heap.size (.slice Fo x do') (upto (nx:Int) x))/\Hid (Below w1.heap.size w1 wx)) (fun _ _ v _=>cn - (intOf v).toNat)
                    case atStart=>exact⟨0,0,_,Nat.zero_le _,rfl,rfl,rfl,HO0,HBe⟩
                    case round=>
                      obtain⟨x,do',Fo,hx,rfl,rfl,rfl,HOt,HBt⟩:=hrel
                      by_cases hxc:x<cn
                      · have hbts:=HBt.out.size
                        go_wp2_with(at_builtin;refine wpList_push rfl _ _ rfl wr w1.heap.size _ (upto (nx:Int) x) ((nx+x:Nat):Int) x (upto_len _ _) (by omega) HOt.out hbts rfl rfl ?_;intro F' d' w7 hO7 hb7;have HO7:=Lib.hid hO7;have HB7:=Lib.hid (HBt.out.trans hb7);clear hO7 hb7)
                        go_roundw
                        case rel=>exact⟨x+1,d',F',by omega,by go_num,by go_num,rfl,Lib.hid (by have:=HO7.out;rw[upto_succ];rw[Int.natCast_add]at this;exact this),HB7⟩
                        case measure=>simp[intOf];omega
                      · obtain rfl:cn=x:=by omega
                        clear hx hxc;obtain⟨wt,hwt⟩: ∃wt,wt=wr:=⟨_,rfl⟩;rw[<-hwt]at HOt HBt⊢;clear hwt;have HOo:=Lib.hid (show OwnI wt b3 (.slice Fo cn do') ci from by rw[HCIE.out];exact own_less HOt.out HSZ.out)
                        have HTn:=Lib.hid (HTn.out.bel (HBt.out.mono HTn.out.size));have HRP:=Lib.hid (show RowV (r+1+1) 28 [.slice (some ⟨b,off,none⟩) n d, .slice G i dg] wt from heap_below HBt.out HRP.out)
                        have HOC:=Lib.hid (show OwnC wt b3 (.slice G i dg) Lv from own_below HOC.out HBt.out)
                        have HEC:=Lib.hid (HEC.out.grown (grown_below HBt.out) (fun e he=>by cases he))
                        have HSZ:=Lib.hid (Nat.le_trans HSZ.out HBt.out.size);have hRPt:=HRP.out;have t0:=hRPt.cell (j:=0) rfl;have t1:=hRPt.cell (j:=1) rfl;rw[HRs.out]at t0 t1;obtain⟨wa,hwa⟩: ∃x,x=wt.alloc (.cells #[(.slice Fo cn do')] 40):=⟨_,rfl⟩
                        have hba:Below wt.heap.size wt wa:=by rw[hwa];exact below_alloc _
                        have hga:wa.heap[wt.heap.size]? =some (.cells #[(.slice Fo cn do')] 40 (0,0)):=by rw[hwa];exact heap_alloc_new _ _
                        have hOCa:OwnC wa b3 (.slice G i dg) Lv:=own_below HOC.out hba;have hs3:b3<=wa.heap.size:=Nat.le_trans HSZ.out hba.size;obtain⟨F',d',wz,hrun,hOCz,hgz⟩:=push_list HLn.out hOCa hga rfl (by omega) hs3
                        have hne: ∀e,(Value.slice G i dg).ownBlock=some e->b3<=e/\ ∃cs ty,wa.heap[e]? =some (.cells cs ty (0,0))/\ty=40:=fun e he=>by
                          obtain⟨h1,cur,h2⟩:=own_at hOCa he;exact⟨h1,cur,_,h2,rfl⟩
                        have hRPa:RowV (r+1+1) 28 [.slice (some ⟨b,off,none⟩) n d, .slice G i dg] wa:=heap_below hba HRP.out;have hRPz:RowV (r+1+1) 28 [.slice (some ⟨b,off,none⟩) n d, .slice G i dg] wz:=heap_grown hgz hRPa (own_ne hOCa hRPa plan_ne1);have hEa:EachC wa b3 Lv (atP u 0 S' L):=HEC.out.grown (grown_below hba) (fun e he=>by cases he)
                        have hOa:OwnI wa b3 (.slice Fo cn do') ci:=own_below HOo.out hba
                        have hgi: ∀e,(Value.slice G i dg).ownBlock=some e-> ∃cs ty,wa.heap[e]? =some (.cells cs ty (0,0))/\3≠ty:=fun e he=>by
                          obtain⟨_,cs,ty,h1,h2⟩:=hne e he;exact⟨cs,ty,h1,by rw[h2];exact ints_ne⟩
                        have hEz:EachC wz b3 Lv (atP u 0 S' L):=hEa.grown hgz hgi;have hOz:OwnI wz b3 (.slice Fo cn do') ci:=own_grown hOa hgz fun g hv e2=>by
                          obtain⟨cs,ty,h1,h2⟩:=hgi g e2;exact own_ne hOa h1 h2 hv
                        have hEs:EachC wz b3 (Lv++ [(.slice Fo cn do')]) (atP u 0 S' L):=EachC.snoc hEz HLn.out HCi.out (by rw[show ci.length=cn by rw[HCIE.out];exact upto_len _ _];exact⟨_,_,rfl,hOz⟩)
                        have HEs:=Lib.hid (hEs.grown (grown_set (q:=r+1+1) (k:=1) (.slice F' (i+1) d')) (fun e he=>by injection he with he;subst he;exact⟨_,_,hRPz,plan_ne2⟩))
                        have HOCs:=Lib.hid (show OwnC (wz.setCell ⟨r+1+1,1,none⟩ (.slice F' (i+1) d')) b3 (.slice F' (i+1) d') (Lv++ [(.slice Fo cn do')])from own_grown hOCz (grown_set _) (fun g hv e2=>own_ne hOCz hRPz plan_ne1 (by rw[e2];exact hv)))
                        have HTs:=Lib.hid (show Turn1 (r+1+1) w2 (wz.setCell ⟨r+1+1,1,none⟩ (.slice F' (i+1) d'))from((HTn.out.bel (hba.mono HTn.out.size)).grow hgz (fun e he=>by rw[<-HB3.out];exact(hne e he).1)).set 1 _)
                        have HRPs:=Lib.hid (show RowV (r+1+1) 28 [.slice (some ⟨b,off,none⟩) n d, .slice F' (i+1) d'] (wz.setCell ⟨r+1+1,1,none⟩ (.slice F' (i+1) d'))from hRPz.set 1 _)
                        have hcz:=hRPz.cell (j:=1) rfl;have hfz:=hRPz.frozen 1;have HRUN:=Lib.hid hrun;rw[HRs.out]at hcz hfz;clear hrun hOCz hgz hne hRPa hRPz hEa hOa hgi hEz hOz hEs hba hga hOCa hs3
                        go_wp2_with(at_builtin;rw[<-hwa];refine wpList_append_plainS rfl _ _ 26 _ _ rfl rfl rfl HRUN.out ?_)
                        rw[<-HRs.out];go_roundw
                        case rel=>exact⟨i+1,k,d',F',Lv++ [(.slice Fo cn do')],(nx+cn),by omega,by go_num,by go_num,by go_num,Lib.hid (by rw[List.length_append,HLn.out];rfl),Lib.hid (HNX2.out),by omega,Lib.hid (HKi2.out),by omega,HTs,HRPs,HOCs,HEs⟩
                        case measure=>simp[intOf];omega
                · obtain rfl:n=i:=by omega
                  have hia:=HR0.out _ HTn.out;have x0:=hia.cell (j:=0) rfl;have x1:=hia.cell (j:=1) rfl;have f0:=hia.frozen 0;have f1:=hia.frozen 1;rw[HRs.out]at x0 x1 f0 f1;have HRr:=Lib.hid (hia.two (.slice F n d) (.slice G n dg));have hg1:=grown_set (w:=wr) (q:=r) (k:=0) (.slice F n d);have hg2:=grown_set (w:=wr.setCell ⟨r,0,none⟩ (.slice F n d)) (q:=r) (k:=1) (.slice G n dg);have hi2:RowV r 28 [.slice F n d, .slice none 0 0] (wr.setCell ⟨r,0,none⟩ (.slice F n d)):=hia.set 0 _;have hOS:=HOS.out _ HTn.out;have hs2:OwnS ((wr.setCell ⟨r,0,none⟩ (.slice F n d)).setCell ⟨r,1,none⟩ (.slice G n dg)) (r+1+1+1) (.slice F n d) S':=own_grown (own_grown hOS hg1 (fun g hv e2=>own_ne hOS hia plan_ne3 (by rw[e2];exact hv))) hg2 (fun g hv e2=>own_ne (own_grown hOS hg1 (fun g hv e2=>own_ne hOS hia plan_ne3 (by rw[e2];exact hv))) hi2 plan_ne3 (by rw[e2];exact hv))
                  have hc1:OwnC (wr.setCell ⟨r,0,none⟩ (.slice F n d)) b3 (.slice G n dg) Lv:=own_grown HOC.out hg1 (fun g hv e2=>own_ne HOC.out hia plan_ne1 (by rw[e2];exact hv))
                  have hc2:OwnC ((wr.setCell ⟨r,0,none⟩ (.slice F n d)).setCell ⟨r,1,none⟩ (.slice G n dg)) b3 (.slice G n dg) Lv:=own_grown hc1 hg2 (fun g hv e2=>own_ne hc1 hi2 plan_ne1 (by rw[e2];exact hv))
                  have he2:=(HEC.out.grown hg1 (fun e he=>by injection he with he;subst he;exact⟨_,_,hia,plan_ne2⟩)).grown hg2 (fun e he=>by injection he with he;subst he;exact⟨_,_,hi2,plan_ne2⟩)
                  have hCl:(atP u 0 S' L).length=n:=by rw[atP_len,HSl.out]
                  have hlol:=hc2.lol HLn.out he2 hCl;have HPl:=Lib.hid (show IsPl ((wr.setCell ⟨r,0,none⟩ (.slice F n d)).setCell ⟨r,1,none⟩ (.slice G n dg)) F n d G n dg S' (atP u 0 S' L)from⟨HSl.out,hCl,hs2.shps,hlol.1,hs2.non,hlol.2⟩)
                  have HBf:=Lib.hid (show Below wf.heap.size wf ((wr.setCell ⟨r,0,none⟩ (.slice F n d)).setCell ⟨r,1,none⟩ (.slice G n dg))from((HBE.out _ HTn.out).setCell (p:=⟨r,0,none⟩) (by have:=HRs.out;show wf.heap.size<=r;omega) _).setCell (p:=⟨r,1,none⟩) (by have:=HRs.out;show wf.heap.size<=r;omega) _)
                  clear hia hg1 hg2 hi2 hOS hs2 hc1 hc2 he2 hCl hlol hlt hi;go_wp2;rw[HRs.out]at HRr HPl HBf;refine bodyPost_ret (ret_plan rfl rfl rfl HRr.out) rfl ⟨F,n,d,G,n,dg,rfl,HPl.out,HBf.out⟩
            · have hne:(ep==0)=false:=by simpa using hp0
              have hne2:(ep !=0)=true:=by simpa using hp0
              obtain⟨rfl,rfl⟩:C= []/\er=171:=by
                rcases HWy.out with⟨h1,_⟩|⟨_,h1,h2⟩
                · exact absurd h1 hp0
                · exact⟨h1,h2⟩
              have hS0:=HG.out.2;rw[if_neg (by decide)]at hS0
              subst hS0;clear hp0 hLa hOa HWy HG;have hia:=HIA.out _ HB2.out;have x0:=hia.r0.cell (j:=0) rfl;have x1:=hia.r0.cell (j:=1) rfl;have f0:=hia.r0.frozen 0;have f1:=hia.r0.frozen 1;have y0:=hia.r1.cell (j:=0) rfl;have y1:=hia.r1.cell (j:=1) rfl;have HIA:=Lib.hid hia;rw[HRs.out]at x0 x1 f0 f1 y0 y1;clear hia;go_wp2;have HIE:=Lib.hid (HIA.out.ret HRs.out);rw[HRs.out]at HIE;refine bodyPost_ret (ret_plan rfl rfl rfl HIE.out.1) rfl ⟨none,0,0,none,0,0,rfl,IsPl.nil _,HIE.out.2⟩
end Go.Proofs.YtlfekmbalgkmeaaGreatDoor
