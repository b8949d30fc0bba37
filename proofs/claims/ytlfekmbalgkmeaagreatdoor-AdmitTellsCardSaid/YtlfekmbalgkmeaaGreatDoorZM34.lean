import Derived.Test.YtlfekmbalgkmeaaGreatDoorZM33
import Derived.Test.YtlfekmbalgkmeaaGreatDoorZM31
import Derived.Test.YtlfekmbalgkmeaaGreatDoorZM19
set_option linter.unusedSimpArgs false
set_option linter.unnecessarySimpa false
set_option linter.unusedVariables false
set_option maxRecDepth 100000
set_option maxHeartbeats 32000000
namespace Go.Proofs.YtlfekmbalgkmeaaGreatDoor
open Go Go.RowKit
theorem handOut_any{A:Option Addr}{n c:Nat}{S:List Shp}{N:Option Addr}{nc m:Nat}{C:List (List Int)}{er:Int}(wf:World)(hn:S.length=n)(h8:n<=8)(hm8:m<=8)(hgood: ∀s∈S,faultS s=0)(hS:Shps wf wf.heap.size A S)(hT:DTab wf)
    (hN:Ints wf wf.heap.size N (coresOf S)) (hH:HandA S (m:Int) C er):
    Calls Tryz.prog 36 #[.slice A n c, .slice N n nc, .int .i64 m] wf fun e w'=> ∃G k d,e= .returned (.tuple #[.slice G k d, .int .i64 er])/\Below wf.heap.size wf w'/\
      ((er=0/\k=n/\d=n/\ ∃b,G=some ⟨b,0,none⟩/\wf.heap.size<b/\AtB b C w')\/(er≠0/\G=none/\k=0/\d=0)):=by
  have HN:=Lib.hid hn;have HS:=Lib.hid (fun W (b:Below wf.heap.size wf W)=>hS.via b)
  have HTB:=Lib.hid (fun W (b:Below wf.heap.size wf W)=>DTab.via hT b)
  have HNI:=Lib.hid (fun W (b:Below wf.heap.size wf W)=>hN.below b)
  have HG:=Lib.hid hgood;have HH:=Lib.hid hH;have KF:=Lib.hid (free_any m hm8 wf);obtain⟨cc,hcc⟩: ∃B,B=wf.heap.size:=⟨_,rfl⟩;rw[<-hcc]at HS HTB HNI KF⊢;have HC:=Lib.hid hcc;clear hn hS hT hN hgood hH hcc;go_enter Tryz.func36,Tryz.ntmps36;go_wp2_with fail;refine KF.out.mono ?_
  rintro e w1 ⟨rfl,hch,b1⟩;obtain⟨g,hg⟩: ∃g,g=w1.heap.size:=⟨_,rfl⟩;have hmk:=make_lists n (by omega) w1
  rw[<-hg]at hmk;have hcg:cc<g:=by rw[hg];exact hch.lt
  obtain⟨w2,hw2⟩: ∃w2,w2=w1.alloc (.cells (List.replicate n (Value.slice none 0 0)).toArray 40):=⟨_,rfl⟩;have H0:=Lib.hid (show AtB g (fillH S n 0) w2 from by rw[hw2,hg,fillH_zero];exact AtB.new _ _)
  have C0:=Lib.hid (show ChanI w2 cc m (upto (usedP (S.take 0)) (((m:Int) - usedP (S.take 0)).toNat)) false from by
    have e:usedP (S.take 0)=0:=by simp[usedP]
    rw[e,Int.sub_zero,Int.toNat_natCast,hw2];exact hch.below (below_alloc _) hch.lt)
  have B0:=Lib.hid (show Below cc wf w2 from by rw[hw2];exact b1.alloc (by rw[HC.out];exact b1.size) _)
  rw[<-hw2]at hmk;clear hg hw2 hch b1 KF;go_wp2;go_loopw [22] (fun i wr=> ∃j:Nat,j<=n/\i= .int .i64 j/\Hid (AtB g (fillH S n j) wr)/\Hid (ChanI wr cc m (upto (usedP (S.take j)) (((m:Int) - usedP (S.take j)).toNat)) false)/\Hid (usedP (S.take j)<=(m:Int))/\Hid (Below cc wf wr)) (fun i _=>n - (intOf i).toNat)
  case atStart=>exact⟨0,Nat.zero_le _,rfl,H0,C0,Lib.hid (by simp[usedP]),B0⟩
  case round=>
    obtain⟨j,hj,rfl,HA,HCh,HU,HB⟩:=hrel;clear hmk H0 C0 B0
    by_cases hlt:j<n
    · obtain⟨b,off,t,lg,mo,dd,pp,rfl,hbg,hek,c0,c1,c2,c3,c4⟩:=(HS.out wr HB.out).at_ (k:=j) (by rw[HN.out];exact hlt)
      have HK:=Lib.hid hek;obtain⟨p1,p2,p3,p4,p5⟩:=coresS_pos (HG.out _ (List.mem_of_getElem? hek))
      obtain⟨kk,hkk⟩: ∃kk:Nat,(kk:Int)=coresS ⟨t,lg,mo,dd,pp⟩:=⟨(coresS ⟨t,lg,mo,dd,pp⟩).toNat,by omega⟩
      have hk8:kk<=8:=by omega
      have HKK:=Lib.hid hkk;clear hek p1 p2 p3 p4 p5 hkk;obtain⟨hv,hhv⟩: ∃hv,hv=heavyS ⟨t,lg,mo,dd,pp⟩:=⟨_,rfl⟩;have CH:=Lib.hid (fun W (hD:DTab W)=>cheavy_any ⟨t,lg,mo,dd,pp⟩ W hD)
      rw[<-hhv]at CH;have HHV:=Lib.hid hhv;unfold Shp.val at CH;clear hhv;dsimp only at CH;have hBw:cc<=wr.heap.size:=by rw[HC.out];exact HB.out.size
      have HD:=Lib.hid (HTB.out _ (HB.out.alloc hBw (.cells #[.int .i64 t, .int .i64 lg, .int .i64 mo, .int .i64 dd, .int .i64 pp] 44)));go_wp2_with fail;refine(CH.out _ HD.out).mono ?_
      rintro e w3 ⟨rfl,b3⟩;have HB3:=Lib.hid ((below_alloc (.cells #[.int .i64 t, .int .i64 lg, .int .i64 mo, .int .i64 dd, .int .i64 pp] 44)).trans (b3.mono (by simp)))
      have HA3:=Lib.hid (HA.out.next HB3.out);have HC3:=Lib.hid (HCh.out.below HB3.out HCh.out.lt);have HBB:=Lib.hid (HB.out.trans (HB3.out.mono hBw));have HNX:=Lib.hid (usedP_next HK.out);clear b3 c0 c1 c2 c3 c4 CH HD HB3;cases hv with
      | true =>
        obtain⟨bn,on,rfl,hbn,hcn⟩:=HNI.out w3 HBB.out (by rw[coresOf_len,HN.out];omega)
        have hcj:=hcn j (by rw[coresOf_len,HN.out];exact hlt)
        rw[List.getD_eq_getElem?_getD,coresOf_at HK.out,Option.getD_some,<-HKK.out]at hcj
        have KT:=Lib.hid (take_any kk cc m _ hk8 w3 HC3.out);clear hcn;go_wp2_with fail;refine KT.out.mono ?_
        rintro e w4 ⟨A4,k4,d4,r4,rfl,ht4,hcase⟩;rw[upto_len]at hcase;rcases hcase with⟨hle,rfl,rfl,hO4,hC4⟩|⟨hle,rfl,rfl,rfl,rfl⟩
        · have hA4:=HA3.out.turn ht4 hcg;obtain⟨v0,hc0,hf0⟩:=hA4.cell (k:=j) (by rw[fillH_len HN.out hj];exact hlt)
          have hu0:=usedP_pos (S:=S.take j) (fun s hs=>HG.out s (List.mem_of_mem_take hs))
          have hu1:=HU.out;rw[upto_take _ _ _ hle]at hO4;rw[upto_drop]at hC4;have hA5:=hA4.set j (ElV.of hO4 (show g+1<=w3.heap.size from HA3.out.lt))
          have hfs:=(fillH_set HN.out HK.out).1 HHV.out.symm;rw[<-HKK.out,Int.toNat_natCast]at hfs;rw[hfs]at hA5;have hnx:=HNX.out;rw[<-HHV.out,if_pos rfl,<-HKK.out]at hnx;have ht5:Turn1 g w4 (w4.setCell ⟨g,j,none⟩ (.slice A4 k4 d4)):=⟨rfl,rfl,rfl,by simp,fun t ht hne=>Below.heap_setCell w4 ⟨g,j,none⟩ _ t hne⟩
          have HA5:=Lib.hid hA5;have HC5:=Lib.hid (show ChanI (w4.setCell ⟨g,j,none⟩ (.slice A4 k4 d4)) cc m (upto (usedP (S.take (j+1))) (((m:Int) - usedP (S.take (j+1))).toNat)) false from by
            rw[hnx,show((m:Int) - (usedP (S.take j)+(k4:Int))).toNat=((m:Int) - usedP (S.take j)).toNat - k4 by omega]
            obtain⟨s5,r5,h5⟩:=hC4;exact⟨s5,r5,by rw[ht5.block cc (Array.getElem?_eq_some_iff.1 h5).1 (by omega)];exact h5⟩)
          have HU5:=Lib.hid (show usedP (S.take (j+1))<=(m:Int) by rw[hnx];omega)
          have HB5:=Lib.hid (show Below cc wf (w4.setCell ⟨g,j,none⟩ (.slice A4 k4 d4))from(HBB.out.trans (ht4.below (by rw[HC.out];exact HBB.out.size) (Nat.le_refl _))).setCell (p:=⟨g,j,none⟩) (Nat.le_of_lt hcg) _)
          clear hA4 hA5 ht5 hO4 hC4 ht4 hfs hnx KT;go_wp2;go_roundw
          case rel=>exact⟨j+1,by omega,by go_num,HA5,HC5,HU5,HB5⟩
          case measure=>simp[intOf];omega
        · have HE:=Lib.hid (show er=171 from by
            have hu0:=usedP_take HG.out (j+1);rw[HNX.out,<-HHV.out,if_pos rfl,<-HKK.out]at hu0;rcases HH.out with⟨_,_,h⟩|⟨h,_⟩
            · exact h
            · omega)
          have HB5:=Lib.hid (HBB.out.trans (ht4.below (by rw[HC.out];exact HBB.out.size) (Nat.le_refl _)))
          clear ht4 KT;go_wp2;refine bodyPost_ret (v:= .tuple #[.slice none 0 0, .int .i64 171]) ?_ rfl ?_
          · simp[results,Tryz.results36,go_sem]
          · exact⟨none,0,0,by rw[HE.out],HB5.out, .inr ⟨by rw[HE.out];decide,rfl,rfl,rfl⟩⟩
      | false =>
        go_wp2;go_roundw
        case rel=>
          refine⟨j+1,by omega,by go_num,Lib.hid ?_,Lib.hid ?_,Lib.hid ?_,HBB⟩
          · rw[<-(fillH_set HN.out HK.out).2 HHV.out.symm];exact HA3.out
          · rw[HNX.out,<-HHV.out,if_neg (by simp),Int.add_zero];exact HC3.out
          · rw[HNX.out,<-HHV.out,if_neg (by simp),Int.add_zero];exact HU.out
        case measure=>simp[intOf];omega
    · obtain rfl:j=n:=by omega
      have hall:S.take j=S:=List.take_of_length_le (by rw[HN.out];exact Nat.le_refl _)
      rw[hall]at HCh HU;clear hall;have hA0:=HA.out;rw[fillH_all HN.out]at hA0;have HA0:=Lib.hid hA0;clear hA0;rcases HH.out with⟨hbad,_,_⟩|⟨hle,L,er0,hP,hways⟩
      · exact absurd hbad (by have:=HU.out;omega)
      · obtain⟨k,hk⟩: ∃k,k=((m:Int) - usedP S).toNat:=⟨_,rfl⟩;have hu0:=usedP_pos HG.out;have hkm:(k:Int)=(m:Int) - usedP S:=by omega
        have hk8:k<=8:=by omega
        rw[<-hk]at HCh;rw[<-hkm]at hP;have HP:=Lib.hid hP;have HW:=Lib.hid hways;have KL:=Lib.hid (left_any cc m _ (by rw[upto_len];omega) wr HCh.out)
        clear hP hways hk hkm hu0 hle;go_wp2_with fail;refine KL.out.mono ?_
        rintro e w3 ⟨A3,k3,d3,rfl,ht3,hk3,hO3⟩;rw[upto_len]at hk3;subst hk3;have hB3:Below cc wf w3:=HB.out.trans (ht3.below (by rw[HC.out];exact HB.out.size) (Nat.le_refl _))
        have hA3:=HA0.out.turn ht3 hcg;obtain⟨A3',c3',e3,hI3⟩:=hO3.slice;rw[upto_len]at e3;injection e3 with a1 a2 a3;subst a1 a3;have KP:=Lib.hid (placeLight_any (c:=c) (d:=d3) w3 HN.out h8 HG.out (HS.out w3 hB3) (HTB.out w3 hB3) hI3 hk8 HP.out hA3);have HB3:=Lib.hid hB3;have HG3:=Lib.hid hA3.lt;clear hB3 hA3 hI3 hO3 ht3 KL;go_wp2_with fail;refine KP.out.mono ?_
        rintro e w4 ⟨rfl,ht4,hA4⟩;have HB4:=Lib.hid (HB3.out.trans (ht4.below (by rw[HC.out];exact HB3.out.size) (by omega)))
        have HA4:=Lib.hid hA4;clear ht4 hA4 KP
        by_cases h0:er0=0
        · subst h0;have HE:=Lib.hid (show er=0/\C=atP (usedP S) 0 S L from by
            rcases HW.out with⟨_,a,b⟩|⟨a,_,_⟩
            · exact⟨b,a⟩
            · exact absurd rfl a)
          rw[if_pos rfl];go_wp2;refine bodyPost_ret (v:= .tuple #[.slice (some ⟨g,0,none⟩) j j, .int .i64 0]) ?_ rfl ?_
          · simp[results,Tryz.results36,go_sem]
          · exact⟨some ⟨g,0,none⟩,j,j,by rw[HE.out.1],HB4.out, .inl ⟨HE.out.1,rfl,rfl,g,rfl,hcg,by rw[HE.out.2];exact HA4.out (by trivial)⟩⟩
        · have HE:=Lib.hid (show er=171 from by
            rcases HW.out with⟨a,_,_⟩|⟨_,_,b⟩
            · exact absurd a h0
            · exact b)
          rw[if_neg h0];go_wp2;refine bodyPost_ret (v:= .tuple #[.slice none 0 0, .int .i64 171]) ?_ rfl ?_
          · simp[results,Tryz.results36,go_sem]
          · exact⟨none,0,0,by rw[HE.out],HB4.out, .inr ⟨by rw[HE.out];decide,rfl,rfl,rfl⟩⟩
def fillS(S:List Shp)(n j:Nat):List Shp:=S.take j++List.replicate (n - j) zS
theorem fillS_zero(S:List Shp)(n:Nat):fillS S n 0=List.replicate n zS:=by simp[fillS]
theorem fillS_all{S:List Shp}{n:Nat}(h:S.length=n):fillS S n n=S:=by simp[fillS,<-h]
theorem fillS_len{S:List Shp}{n j:Nat}(h:S.length=n)(hj:j<=n):(fillS S n j).length=n:=by simp[fillS];omega
theorem fillS_set{S:List Shp}{n j:Nat}{s:Shp}(h:S.length=n)(hs:S[j]? =some s):(fillS S n j).set j s=fillS S n (j+1):=by
 have hl:=(List.getElem?_eq_some_iff.mp hs).1
 have hl2:(S.take j).length=j:=by rw[List.length_take];omega
 unfold fillS;rw[take_one hs,List.set_append_right _ _ (by omega),hl2,Nat.sub_self,show n - j=(n - (j+1))+1 by omega,List.replicate_succ,List.set_cons_zero,List.append_assoc]
 rfl
theorem shpsT_at{Ts:List Task}{k:Nat}{T:Task}(h:Ts[k]? =some T):(shpsT Ts)[k]? =some (shapeT T):=by simp[shpsT,h]
theorem shapesOf_any{A:Option Addr}{n c:Nat}{l:List (Sh×Task)}(wf:World)(hn:l.length=n)(h8:n<=8)(h:IsTs wf A l){x:Int}(hx:x=fstX ((pairT l).map lowX)):
  Calls Tryz.prog 34 #[.slice A n c] wf fun e w'=> ∃F k d,e= .returned (.tuple #[.slice F k d,.int .i64 x])/\Below wf.heap.size wf w'/\
   ((x=0/\k=n/\Shps w' w'.heap.size F (shpsT (pairT l))/\(F=none->k=0/\d=0))\/(x≠0/\F=none/\k=0/\d=0)):=by
 have HX:=Lib.hid hx;have HN:=Lib.hid hn;have HT:=Lib.hid (fun W (b:Below wf.heap.size wf W)=>h.via b)
 have hmk:=make_shapes n h8 wf;obtain⟨g,hg⟩: ∃g,g=wf.heap.size:=⟨_,rfl⟩;rw[<-hg]at hmk;have HG:=Lib.hid hg;obtain⟨w0,hw0⟩: ∃w0,w0=wf.alloc (.cells (flatS (List.replicate n zS)).toArray 44):=⟨_,rfl⟩;have H0:=Lib.hid (show RowS g (fillS (shpsT (pairT l)) n 0) w0 from by rw[hw0,hg,fillS_zero];exact RowV.new _ _ _)
 have B0:=Lib.hid (show Below g wf w0 from by rw[hw0,hg];exact below_alloc _)
 rw[<-hw0]at hmk;clear hn hx h hg hw0;go_enter Tryz.func34,Tryz.ntmps34;go_wp2;go_loopw [14] (fun i wr=> ∃j:Nat,j<=n/\i= .int .i64 j/\Hid (RowS g (fillS (shpsT (pairT l)) n j) wr)/\Hid (fstX (((pairT l).map lowX).take j)=0)/\Hid (Below g wf wr)) (fun i _=>n - (intOf i).toNat)
 case atStart=>exact⟨0,Nat.zero_le _,rfl,H0,Lib.hid (by simp[fstX]),B0⟩
 case round=>
  obtain⟨j,hj,rfl,HR,HZ,HB⟩:=hrel;clear hmk
  by_cases hlt:j<n
  ·obtain ⟨b,off,P,np,pc,E,ne,ec,F,nf,fc,R,nr,rc,T,rfl,hbg,hek,c0,c1,c2,c3,c4,c5⟩:=(HT.out wr (by rw [<- HG.out]; exact HB.out)).tks.at_ (k:=j) (by rw [HN.out]; exact hlt)
   have HK:=Lib.hid hek;clear hek;obtain⟨s,hs⟩: ∃s,s=shapeT T:=⟨_,rfl⟩;obtain⟨y,hy⟩: ∃y,y=lowX T:=⟨_,rfl⟩;have HZN:=Lib.hid (fstX_next HZ.out (show((pairT l).map lowX)[j]? =some y by rw[List.getElem?_map,pairT_at HK.out,hy];rfl))
   have HS:=Lib.hid (show(shpsT (pairT l))[j]? =some s by rw[hs];exact shpsT_at (pairT_at HK.out))
   have CS:=Lib.hid (fun W (hD:IsD W ⟨P,np,pc,E,ne,ec,F,nf,fc,R,nr,rc⟩ T)=>cshape_any _ T W hD)
   have HD:=Lib.hid (((HT.out wr (by rw[<-HG.out];exact HB.out)).each _ (List.mem_of_getElem? HK.out)).below (below_alloc (.cells #[.int .i64 T.period,.int .i64 T.deadline,.slice P np pc,.slice E ne ec,.slice F nf fc,.slice R nr rc] 57)))
   rw[<-hs,<-hy]at CS;unfold Sh.arg Shp.val at CS;clear hs hy;obtain⟨t,lg,mo,d,p⟩:=s;dsimp only at CS;obtain⟨per,hper⟩: ∃q,q=T.period:=⟨_,rfl⟩;obtain⟨dea,hdea⟩: ∃q,q=T.deadline:=⟨_,rfl⟩;rw[<-hper,<-hdea]at CS HD;rw[<-hper]at c0;rw[<-hdea]at c1;clear hper hdea;go_wp2_with fail;refine(CS.out _ HD.out).mono ?_
   rintro e w1 ⟨rfl,b1⟩;have HB1:=Lib.hid ((below_alloc (.cells #[.int .i64 per,.int .i64 dea,.slice P np pc,.slice E ne ec,.slice F nf fc,.slice R nr rc] 57)).trans (b1.mono (by simp)))
   clear b1 c0 c1 c2 c3 c4 c5 CS HD
   by_cases hy0:y=0
   ·subst hy0
    obtain⟨w2,hw2⟩: ∃w2,w2=w1.alloc (.cells #[.int .i64 t,.int .i64 lg,.int .i64 mo,.int .i64 d,.int .i64 p] 44):=⟨_,rfl⟩;have HB2:=Lib.hid (HB1.out.trans ((below_alloc (.cells #[.int .i64 t,.int .i64 lg,.int .i64 mo,.int .i64 d,.int .i64 p] 44)).mono HB1.out.size));rw[<-hw2]at HB2;have hR2:RowS g (fillS (shpsT (pairT l)) n j) w2:=RowV.below HR.out HB2.out (RowV.lt HR.out);obtain⟨_,_,_,_,_,_,k0,k1,k2,k3,k4⟩:=hR2.cells (k:=j) (by rw[fillS_len (by rw[shpsT_len,pairT_len,HN.out]) hj];exact hlt)
    have f0:=RowV.frozen hR2 (j * 5);have f1:=RowV.frozen hR2 (j * 5+1);have f2:=RowV.frozen hR2 (j * 5+2);have f3:=RowV.frozen hR2 (j * 5+3);have f4:=RowV.frozen hR2 (j * 5+4);rw[hw2]at f0 f1 f2 f3 f4 k0 k1 k2 k3 k4;have hR3:=hR2.set (k:=j) (by rw[fillS_len (by rw[shpsT_len,pairT_len,HN.out]) hj];exact hlt) ⟨t,lg,mo,d,p⟩
    rw[fillS_set (by rw[shpsT_len,pairT_len,HN.out]) HS.out,hw2]at hR3
    have HR3:=Lib.hid hR3;have HW2:=Lib.hid hw2;clear hw2 hR2 hR3;go_wp2;go_roundw
    case rel=>
     refine⟨j+1,by omega,by go_num,HR3,Lib.hid (HZN.out.1 (by trivial)),Lib.hid ?_⟩
     have q:=HB.out.trans (HB2.out.mono (by have:=RowV.lt HR.out;omega))
     rw[HW2.out]at q;exact((((q.setCell (p:=⟨g,_,none⟩) (Nat.le_refl g) _).setCell (p:=⟨g,_,none⟩) (Nat.le_refl g) _).setCell (p:=⟨g,_,none⟩) (Nat.le_refl g) _).setCell (p:=⟨g,_,none⟩) (Nat.le_refl g) _).setCell (p:=⟨g,_,none⟩) (Nat.le_refl g) _
    case measure=>simp[intOf];omega
   ·have HF:=Lib.hid (HX.out.trans (HZN.out.2 hy0))
    have hgd:(y==0)=false:=by simpa using hy0
    go_wp2;refine bodyPost_ret (v:=.tuple #[.slice none 0 0,.int .i64 y]) ?_ rfl ⟨none,0,0,by rw[HF.out],?_,.inr ⟨by rw[HF.out];exact hy0,rfl,rfl,rfl⟩⟩
    ·simp[results,Tryz.results34,go_sem]
    ·rw [<- HG.out]
     exact(HB.out.trans (HB1.out.mono (by have:=RowV.lt HR.out;omega))).alloc (by have:=RowV.lt HR.out;have:=HB1.out.size;omega) _
  ·obtain rfl: j = n:=by omega
   go_wp2;refine bodyPost_ret (v:=.tuple #[.slice (some ⟨g,0,none⟩) j j,.int .i64 0]) ?_ rfl ⟨some ⟨g,0,none⟩,j,j,?_,?_,.inl ⟨?_,rfl,?_,fun e=>by cases e⟩⟩
   ·simp[results,Tryz.results34,go_sem]
   ·have:=HZ.out
    rw[List.take_of_length_le (by rw[List.length_map,pairT_len,HN.out];exact Nat.le_refl _)]at this
    rw[HX.out,this]
   ·rw[<-HG.out];exact HB.out
   ·have:=HZ.out
    rw[List.take_of_length_le (by rw[List.length_map,pairT_len,HN.out];exact Nat.le_refl _)]at this
    rw[HX.out,this]
   ·have:=HR.out
    rw[fillS_all (by rw[shpsT_len,pairT_len,HN.out])]at this
    exact this.shps
theorem load_plan{w:World}{q:Nat}{a b:Value}(h:RowV q 28 [a,b] w):(loadVar 28 ⟨q,0,none⟩).run Tryz.prog w= .ok (.agg #[a,b]) w:=
 run_loadVar_row _ q _ _ _ _ _ h Tryz.underlying28 rfl (by kernel_rfl)
theorem ret_plan{fn:Func}{p u:Tmp}(h:fn.results= #[.cell p 28,.tmp u]){tmps:Array Value}{w:World}{q:Nat}{a b x:Value}(hp:tmps.getD p undef= .pointer (some ⟨q,0,none⟩))(hu:tmps.getD u undef=x)(h1:RowV q 28 [a,b] w):
  (results fn tmps).run Tryz.prog w= .ok (.tuple #[.agg #[a,b],x]) w:=by
 rw[results_cell_tmp h,hp,hu];simp[asAddr,load_plan h1,Result.andThen]
theorem RowV.two{g:Nat}{t:TypeId}{a b:Value}{w:World}(h:RowV g t [a,b] w)(x y:Value):RowV g t [x,y] ((w.setCell ⟨g,0,none⟩ x).setCell ⟨g,1,none⟩ y):=(h.set 0 x).set 1 y
theorem Turn1.box{g:Nat}{w:World}(x y:Value):Turn1 g w ((w.setCell ⟨g,0,none⟩ x).setCell ⟨g,1,none⟩ y):=
 Turn1.trans (b:=w.setCell ⟨g,0,none⟩ x) ⟨rfl,rfl,rfl,by simp,fun t _ hne=>Below.heap_setCell w ⟨g,0,none⟩ x t hne⟩ ⟨rfl,rfl,rfl,by simp,fun t _ hne=>Below.heap_setCell (w.setCell ⟨g,0,none⟩ x) ⟨g,1,none⟩ y t hne⟩
theorem Shps.box{w w':World}{g:Nat}{t:TypeId}{a b:Value}{A:Option Addr}{es:List Shp}(h:Shps w w.heap.size A es)(hr:RowV g t [a,b] w)(ha: ∀z,a≠ .int .i64 z)(hb: ∀z,b≠ .int .i64 z)(ht:Turn1 g w w'):Shps w' w'.heap.size A es:=fun hn=>by
 obtain⟨q,off,e,hlt,hc⟩:=h hn;have hne:q≠g:=fun e2=>by
  subst e2;obtain⟨⟨c0,_⟩,_⟩:=hc 0 es[0] (List.getElem?_eq_getElem hn)
  rw[cell_of_row _ _ _ _ _ _ hr]at c0;simp only[List.getElem?_toArray]at c0
  rcases List.mem_cons.mp (List.mem_of_getElem? c0)with h1|h1
  ·exact ha _ h1.symm
  ·rcases List.mem_cons.mp h1 with h1 | h1
   ·exact hb _ h1.symm
   ·cases h1
 refine⟨q,off,e,Nat.lt_of_lt_of_le hlt ht.size,fun k x hx=> ?_⟩
 obtain⟨⟨c0,c1⟩,c2,c3,c4⟩:=hc k x hx;have hk: ∀o:Nat,w'.cell? ⟨q,o,none⟩=w.cell? ⟨q,o,none⟩:=fun o=>World.cell?_of_block (a:=⟨q,o,none⟩) (ht.block q hlt hne)
 exact⟨⟨(hk _).trans c0,(hk _).trans c1⟩,(hk _).trans c2,(hk _).trans c3,(hk _).trans c4⟩
theorem admit_bad{A:Option Addr}{n c:Nat}{m:Int}(wf:World)(hbad: ¬MayA n m)(hn:n<=1000):
  Calls Tryz.prog 11 #[.slice A n c,.int .i64 m] wf fun e w'=>e= .returned (.tuple #[.agg #[.slice none 0 0,.slice none 0 0],.int .i64 170])/\Below wf.heap.size wf w':=by
 obtain⟨g,hg⟩: ∃g,g=wf.heap.size:=⟨_,rfl⟩;have HR:=Lib.hid (show RowV g 28 [.slice none 0 0,.slice none 0 0] (wf.alloc (.cells #[.slice none 0 0,.slice none 0 0] 28))from by rw[hg];exact RowV.new _ _ _)
 have HB:=Lib.hid (show Below g wf (wf.alloc (.cells #[.slice none 0 0,.slice none 0 0] 28))from by rw[hg];exact below_alloc _)
 have KM:=Lib.hid (amay_any m)
 by_cases h8:n<=8
 ·have hm: decide (1 <= m /\ m <= 8) = false:=decide_eq_false fun q => hbad ⟨h8,q⟩
  rw[hm]at KM;have f0:=HR.out.frozen 0;have f1:=HR.out.frozen 1;have q0:=HR.out.cell (j:=0) rfl;have q1:=HR.out.cell (j:=1) rfl;have hgd:decide ((8:Int)<(n:Int))=false:=decide_eq_false (by omega)
  have hgd2:decide (8<n)=false:=decide_eq_false (by omega)
  rw[hg]at f0 f1 q0 q1;clear hm hbad;go_enter Tryz.func11,Tryz.ntmps11;go_wp2_with fail;refine(KM.out _).mono ?_
  rintro e w1 ⟨rfl,rfl⟩;have HR2:=HR;have HB2:=HB;rw[hg]at HR2 HB2;clear HR HB hg;go_wp2;refine bodyPost_ret (ret_plan rfl rfl rfl HR2.out) rfl ⟨rfl,HB2.out⟩
 ·have hgd: decide ((8: Int) < (n: Int)) = true:=decide_eq_true (by omega)
  have hgd2:decide (8<n)=true:=decide_eq_true (by omega)
  have f0:=HR.out.frozen 0;have f1:=HR.out.frozen 1;have q0:=HR.out.cell (j:=0) rfl;have q1:=HR.out.cell (j:=1) rfl;rw[hg]at f0 f1 q0 q1;have HR2:=HR;have HB2:=HB;rw[hg]at HR2 HB2;clear HR HB hg hbad;go_enter Tryz.func11,Tryz.ntmps11;go_wp2;refine bodyPost_ret (ret_plan rfl rfl rfl HR2.out) rfl ⟨rfl,HB2.out⟩
theorem admit_good{A:Option Addr}{n c:Nat}{l:List (Sh×Task)}{m:Nat}{S:List Shp}{C:List (List Int)}{er:Int}(wf:World)(hn:l.length=n)(h8:n<=8)(hm1:1<=m)(hm8:m<=8)(h:IsTs wf A l)(hT:DTab wf)(hA:AdmA (pairT l) (m:Int) S C er):
  Calls Tryz.prog 11 #[.slice A n c,.int .i64 m] wf fun e w'=> ∃A1 n1 c1 A2 n2 c2,e= .returned (.tuple #[.agg #[.slice A1 n1 c1,.slice A2 n2 c2],.int .i64 er])/\IsPl w' A1 n1 c1 A2 n2 c2 S C/\Below wf.heap.size wf w':=by
 have HM:MayA (pairT l).length (m:Int):=⟨by rw[pairT_len];omega,by omega,by omega⟩
 obtain⟨w0,hw0⟩: ∃w0,w0=wf.alloc (.cells #[.slice none 0 0,.slice none 0 0] 28):=⟨_,rfl⟩;obtain⟨g,hg⟩: ∃g,g=wf.heap.size:=⟨_,rfl⟩;have HR:=Lib.hid (show RowV g 28 [.slice none 0 0,.slice none 0 0] w0 from by rw[hg,hw0];exact RowV.new _ _ _)
 have HB:=Lib.hid (show Below g wf w0 from by rw[hg,hw0];exact below_alloc _)
 have HGs:=Lib.hid hg;have HN:=Lib.hid hn;have HTB:=Lib.hid (fun W (b:Below g wf W)=>DTab.via hT (by rw[<-hg];exact b))
 have hgd:decide ((8:Int)<(n:Int))=false:=decide_eq_false (by omega)
 have hgd2:decide (8<n)=false:=decide_eq_false (by omega)
 have KM:=Lib.hid (amay_any (m:Int));rw[decide_eq_true (show 1<=(m:Int)/\(m:Int)<=8 by omega)]at KM
 obtain⟨x1,hx1⟩: ∃x,x=fstX ((pairT l).map lowX):=⟨_,rfl⟩;obtain⟨x2,hx2⟩: ∃x,x=fstX ((shpsT (pairT l)).map faultS):=⟨_,rfl⟩;have KS:=Lib.hid (shapesOf_any (c:=c) w0 hn h8 (h.via (by rw[<-hg];exact HB.out)) hx1)
 have HX1:=Lib.hid hx1;have HX2:=Lib.hid hx2;have HA:=Lib.hid hA;have HAZ:=Lib.hid hA;have HMM:=Lib.hid HM;rw[<-hg];have HW0:=Lib.hid hw0;clear hn h hT hA HM hx1 hx2 hg hw0;go_enter Tryz.func11,Tryz.ntmps11;go_wp2_with fail;rw[<-HW0.out,<-HGs.out];refine(KM.out _).mono ?_
 rintro e w1 ⟨rfl,rfl⟩;clear HW0 KM;go_wp2_with fail;refine KS.out.mono ?_
 rintro e w1 ⟨F,k,d,rfl,b1,hcase⟩;have HB1:=Lib.hid (HB.out.trans (b1.mono (Nat.le_of_lt HR.out.lt)));have HR1:=Lib.hid (HR.out.below b1 HR.out.lt);clear b1 KS HB HR
 by_cases h1:x1=0
 ·subst h1
  obtain⟨rfl,hSh,hFn⟩:k=n/\Shps w1 w1.heap.size F (shpsT (pairT l))/\(F=none->k=0/\d=0):=by
   rcases hcase with⟨_,q⟩|⟨q,_⟩
   ·exact q
   ·exact absurd rfl q
  have KN:=Lib.hid (needsOf_any (c:=d) w1 (show(shpsT (pairT l)).length=k by rw[shpsT_len,pairT_len,HN.out]) h8 hSh (HTB.out w1 HB1.out) HX2.out)
  have HS1:=Lib.hid (fun W (b:Below w1.heap.size w1 W)=>hSh.via b)
  have HFn:=Lib.hid hFn;clear hcase hSh hFn;go_wp2_with fail;refine KN.out.mono ?_
  rintro e w2 ⟨G,k2,d2,rfl,b2,hcase⟩;have HB2:=Lib.hid (HB1.out.trans (b2.mono (Nat.le_of_lt HR1.out.lt)));have HR2:=Lib.hid (HR1.out.below b2 HR1.out.lt);have HS2:=Lib.hid (HS1.out w2 b2);clear b2 KN HS1
  by_cases h2:x2=0
  ·subst h2
   obtain⟨rfl,hNe,hGn⟩:k2=k/\Ints w2 w2.heap.size G (coresOf (shpsT (pairT l)))/\(G=none->k2=0/\d2=0):=by
    rcases hcase with⟨_,q⟩|⟨q,_⟩
    ·exact q
    ·exact absurd rfl q
   obtain⟨hH,hSe⟩:HandA (shpsT (pairT l)) (m:Int) C er/\S=if er=0 then shpsT (pairT l)else []:=by
    rcases HA.out with⟨q,_⟩|⟨_,q,_⟩|⟨_,_,q,_⟩|⟨_,_,_,q1,q2⟩
    ·exact absurd HMM.out q
    ·exact absurd HX1.out.symm q
    ·exact absurd HX2.out.symm q
    ·exact⟨q1,q2⟩
   have KH:=Lib.hid (handOut_any (c:=d) (nc:=d2) w2 (show(shpsT (pairT l)).length=k2 by rw[shpsT_len,pairT_len,HN.out]) h8 hm8 (shapes_good HX2.out.symm) HS2.out (HTB.out w2 HB2.out) hNe hH)
   have HSe:=Lib.hid hSe;have HHw:=Lib.hid hH.ways;clear hcase hNe hGn hH hSe HA;go_wp2_with fail;refine KH.out.mono ?_
   rintro e w3 ⟨P,k3,d3,rfl,b3,hcase⟩;have HB3:=Lib.hid (HB2.out.trans (b3.mono (Nat.le_of_lt HR2.out.lt)));have HR3:=Lib.hid (HR2.out.below b3 HR2.out.lt);have HS3:=Lib.hid (HS2.out.via b3);have f0:=HR3.out.frozen 0;have f1:=HR3.out.frozen 1;have q0:=HR3.out.cell (j:=0) rfl;have q1:=HR3.out.cell (j:=1) rfl;clear b3 KH
   by_cases h3:er=0
   ·subst h3
    obtain⟨rfl,rfl,b,rfl,hgb,hAt⟩:k3=k2/\d3=k2/\ ∃b,P=some ⟨b,0,none⟩/\w2.heap.size<b/\AtB b C w3:=by
     rcases hcase with⟨_,q⟩|⟨q,_⟩
     ·exact q
     ·exact absurd rfl q
    have hS:S=shpsT (pairT l):=HSe.out.trans (if_pos rfl);have ht:=Turn1.box (g:=g) (w:=w3) (.slice F d3 d) (.slice (some ⟨b,0,none⟩) d3 d3);have HRF:=Lib.hid (HR3.out.two (.slice F d3 d) (.slice (some ⟨b,0,none⟩) d3 d3));have hS4:=HS3.out.box HR3.out (fun z e=>by cases e) (fun z e=>by cases e) ht
    have hA4:=hAt.turn ht (Nat.lt_trans HR2.out.lt hgb);have HPL:=Lib.hid (show IsPl ((w3.setCell ⟨g,0,none⟩ (.slice F d3 d)).setCell ⟨g,1,none⟩ (.slice (some ⟨b,0,none⟩) d3 d3)) F d3 d (some ⟨b,0,none⟩) d3 d3 S C from
     ⟨by rw[hS,shpsT_len,pairT_len,HN.out],by
      obtain⟨L,hOk⟩:=HAZ.out.zero rfl;rw[hOk.len.2.1,pairT_len,HN.out],by rw[hS];exact hS4,hA4.lol,HFn.out,fun e=>by cases e⟩)
    have HBF:=Lib.hid ((HB3.out.setCell (p:=⟨g,0,none⟩) (Nat.le_refl g) (.slice F d3 d)).setCell (p:=⟨g,1,none⟩) (Nat.le_refl g) (.slice (some ⟨b,0,none⟩) d3 d3));clear ht hS4 hA4 hAt hS hcase hgb;go_wp2;exact bodyPost_ret (ret_plan rfl rfl rfl HRF.out) rfl ⟨_,_,_,_,_,_,rfl,HPL.out,HBF.out⟩
   ·obtain ⟨hE1,hE2⟩:=HAZ.out.non h3
    subst hE1 hE2;have HRF:=Lib.hid (HR3.out.two (.slice none 0 0) (.slice none 0 0));have HBF:=Lib.hid ((HB3.out.setCell (p:=⟨g,0,none⟩) (Nat.le_refl g) (.slice none 0 0)).setCell (p:=⟨g,1,none⟩) (Nat.le_refl g) (.slice none 0 0));have hgd3:(er==0)=false:=by simpa using h3
    clear hcase;go_wp2;exact bodyPost_ret (ret_plan rfl rfl rfl HRF.out) rfl ⟨_,_,_,_,_,_,rfl,IsPl.nil _,HBF.out⟩
  ·obtain ⟨hE1,hE2,hE3⟩:=HAZ.out.one_ (.inr (.inr (.inl ⟨HMM.out,HX1.out.symm,by rw [<- HX2.out]; exact h2,rfl,rfl,rfl⟩)))
   rw[<-HX2.out]at hE3;subst hE1 hE2 hE3;have HRF:=Lib.hid (HR2.out.two (.slice none 0 0) (.slice none 0 0));have HBF:=Lib.hid ((HB2.out.setCell (p:=⟨g,0,none⟩) (Nat.le_refl g) (.slice none 0 0)).setCell (p:=⟨g,1,none⟩) (Nat.le_refl g) (.slice none 0 0));have f0:=HR2.out.frozen 0;have f1:=HR2.out.frozen 1;have q0:=HR2.out.cell (j:=0) rfl;have q1:=HR2.out.cell (j:=1) rfl;have hgd3:(er==0)=false:=by simpa using h2
   clear hcase;go_wp2;exact bodyPost_ret (ret_plan rfl rfl rfl HRF.out) rfl ⟨_,_,_,_,_,_,rfl,IsPl.nil _,HBF.out⟩
 ·obtain ⟨hE1,hE2,hE3⟩:=HAZ.out.one_ (.inr (.inl ⟨HMM.out,by rw [<- HX1.out]; exact h1,rfl,rfl,rfl⟩))
  rw[<-HX1.out]at hE3;subst hE1 hE2 hE3;have HRF:=Lib.hid (HR1.out.two (.slice none 0 0) (.slice none 0 0));have HBF:=Lib.hid ((HB1.out.setCell (p:=⟨g,0,none⟩) (Nat.le_refl g) (.slice none 0 0)).setCell (p:=⟨g,1,none⟩) (Nat.le_refl g) (.slice none 0 0));have f0:=HR1.out.frozen 0;have f1:=HR1.out.frozen 1;have q0:=HR1.out.cell (j:=0) rfl;have q1:=HR1.out.cell (j:=1) rfl;have hgd3:(er==0)=false:=by simpa using h1
  clear hcase;go_wp2;exact bodyPost_ret (ret_plan rfl rfl rfl HRF.out) rfl ⟨_,_,_,_,_,_,rfl,IsPl.nil _,HBF.out⟩
theorem admit_any{A:Option Addr}{n c:Nat}{l:List (Sh×Task)}{m:Int}{S:List Shp}{C:List (List Int)}{er:Int}(wf:World)(hn:l.length=n)(hn2:n<=1000)(h:IsTs wf A l)(hT:DTab wf)(hA:AdmA (pairT l) m S C er):
  Calls Tryz.prog 11 #[.slice A n c,.int .i64 m] wf fun e w'=> ∃A1 n1 c1 A2 n2 c2,e= .returned (.tuple #[.agg #[.slice A1 n1 c1,.slice A2 n2 c2],.int .i64 er])/\IsPl w' A1 n1 c1 A2 n2 c2 S C/\Below wf.heap.size wf w':=by
 by_cases hM:MayA n m
 ·obtain ⟨k,rfl⟩: ∃ k: Nat,m = (k: Int):=⟨m.toNat,by have:=hM.2; omega⟩
  exact admit_good wf hn hM.1 (by have:=hM.2;omega) (by have:=hM.2;omega) h hT hA
 ·obtain ⟨rfl,rfl,rfl⟩:=hA.one_ (.inl ⟨by rw [pairT_len,hn]; exact hM,rfl,rfl,rfl⟩)
  refine(admit_bad wf hM hn2).mono ?_
  rintro e w' ⟨rfl,b⟩;exact⟨_,_,_,_,_,_,rfl,IsPl.nil _,b⟩
theorem contains_any{A:Option Addr}{n c:Nat}{zs:List Int}(x:Int)(w:World)(hn:zs.length=n)(hl:n<=100)(hI:Ints w w.heap.size A zs)(r:Bool)(hr:r=true↔x∈zs):
    Calls Tryz.prog 77 #[.slice A n c, .int .i64 x] w fun e w'=>e= .returned (.bool r)/\w=w':=by
  have KI:=Lib.hid (idx_of A c n zs x w w.heap.size hn (by omega) hI)
  have HR:=Lib.hid hr;clear hr hI hn;go_enter Tryz.func77,Tryz.ntmps77;go_wp2_with fail;refine KI.out.mono ?_
  rintro e w' ⟨y,rfl,rfl,hy⟩;cases r with
  | true =>
    have h0:decide ((0:Int)<=y)=true:=decide_eq_true (hy.mpr (HR.out.mp rfl));clear hy;go_wp2;go_ret;exact⟨rfl,rfl⟩
  | false =>
    have h0:decide ((0:Int)<=y)=false:=decide_eq_false (fun q=>by have:=HR.out.mpr (hy.mp q);cases this)
    clear hy;go_wp2;go_ret;exact⟨rfl,rfl⟩
theorem IsPl.box{w:World}{A:Option Addr}{n c:Nat}{G:Option Addr}{m d:Nat}{S:List Shp}{C:List (List Int)}(h:IsPl w A n c G m d S C):
  RowV w.heap.size 28 [.slice A n c,.slice G m d] (w.alloc (.cells #[.slice A n c,.slice G m d] 28)):=RowV.new _ _ _
theorem owners_any{A:Option Addr}{n c:Nat}{G:Option Addr}{m d:Nat}{S:List Shp}{C:List (List Int)}(k:Int)(wf:World)(h:IsPl wf A n c G m d S C)(hf:FewP S C):
    Calls Tryz.prog 44 #[.agg #[.slice A n c, .slice G m d], .int .i64 k] wf fun e w'=> ∃F q d1,e= .returned (.slice F q d1)/\Below wf.heap.size wf w'/\((owns S C k).length=q/\OwnI w' wf.heap.size (.slice F q d1) (nums (owns S C k))):=by
  obtain⟨g,hg⟩: ∃g,g=wf.heap.size:=⟨_,rfl⟩;have HGs:=Lib.hid hg;obtain⟨w0,hw0⟩: ∃w0,w0=wf.alloc (.cells #[.slice A n c, .slice G m d] 28):=⟨_,rfl⟩;have HR:=Lib.hid (show RowV g 28 [.slice A n c, .slice G m d] w0 from by rw[hg,hw0];exact h.box)
  have HB:=Lib.hid (show Below g wf w0 from by rw[hg,hw0];exact below_alloc _)
  have HL:=Lib.hid (fun W (b:Below g wf W)=>h.lol.via (by rw[<-hg];exact b))
  have HN:=Lib.hid (show S.length=n/\C.length=m/\n<=20/\m<=20 from⟨h.l1,h.l2,by have:=hf.f1;rw[h.l1]at this;exact this,by have:=hf.f2;rw[h.l2]at this;exact this⟩)
  have HF:=Lib.hid hf.f3;have HW0:=Lib.hid hw0;obtain⟨mn,hmn⟩: ∃q,q=min n m:=⟨_,rfl⟩;have hcases:(m<n/\mn=m)\/(¬m<n/\mn=n):=by omega
  have HO:=Lib.hid (show owns S C k=ownT C k mn from by unfold owns;rw[h.l1,h.l2,hmn])
  have hmn20:mn<=20:=by have:=HN.out;omega
  have hmnm:mn<=m:=by omega
  rw[<-hg];clear h hf hg hw0 hmn;obtain⟨L2,hL2⟩: ∃L2:List Value,L2= [.slice A n c, .slice G m d]:=⟨_,rfl⟩;rw[<-hL2]at HR;have HL2:=Lib.hid hL2;clear hL2;rcases hcases with⟨hmq,rfl⟩|⟨hmq,rfl⟩
  all_goals
    have q0:=HR.out.cell (j:=0) (by rw[HL2.out];rfl)
    have q1:=HR.out.cell (j:=1) (by rw[HL2.out];rfl)
    rw[HW0.out,HGs.out]at q0 q1;go_enter Tryz.func44,Tryz.ntmps44;go_wp2;rw[<-HW0.out,<-HGs.out];clear q0 q1;go_loopw [5,14] (fun v i wr=> ∃(j q:Nat) (F:Option Addr) (d1:Nat),j<=mn/\q<=j/\i= .int .i64 j/\v= .slice F q d1/\Hid (q=(ownT C k j).length)/\Hid (OwnI wr (g+1) (.slice F q d1) (nums (ownT C k j)))/\Hid (RowV g 28 L2 wr)/\Hid (Below g wf wr)) (fun _ i _=>mn - (intOf i).toNat)
    case atStart=>exact⟨0,0,none,0,Nat.zero_le _,Nat.le_refl _,rfl,rfl,Lib.hid rfl,Lib.hid ⟨rfl, .inl ⟨rfl,rfl⟩⟩,HR,HB⟩
    case round=>
      obtain⟨j,q,F,d1,hj,hqj,rfl,rfl,HQ,HOI,HRo,HBe⟩:=hrel
      by_cases hlt:j<mn
      · obtain⟨b,off,row,A1,n1,c1,rfl,hb,hrow,hn1,hcell,hI,_⟩:=(HL.out wr HBe.out).at_ (k:=j) (by rw[HN.out.2.1];omega)
        have q0:=HRo.out.cell (j:=0) (by rw[HL2.out];rfl)
        have q1:=HRo.out.cell (j:=1) (by rw[HL2.out];rfl)
        obtain⟨r,hr⟩: ∃r:Bool,r=true↔k∈row:=by
          by_cases z:k∈row
          · exact⟨true,fun _=>z,fun _=>rfl⟩
          · exact⟨false,fun q=>Bool.noConfusion q,fun q=>absurd q z⟩
        have KC:=Lib.hid (contains_any (c:=c1) k wr hn1 (by have:=HF.out row (List.mem_of_getElem? hrow);omega) hI r hr)
        have HS:=Lib.hid (ownT_succ (k:=k) hrow);have HRr:=Lib.hid hr;clear hrow hI hr hn1;go_wp2_with fail;refine KC.out.mono ?_
        rintro e w' ⟨rfl,rfl⟩;cases r with
        | true =>
          have hS:=HS.out;rw[if_pos (HRr.out.mp rfl)]at hS;have HS2:=Lib.hid hS;have hgw:g+1<=wr.heap.size:=HRo.out.lt;clear hS HS KC
          go_wp2_with(at_builtin;refine wpList_push rfl _ _ rfl wr (g+1) _ _ (j:Int) q (by rw[nums_len];exact HQ.out.symm) (by omega) HOI.out hgw rfl rfl ?_;intro F' d' w3 hO3 hb3;have HO3:=Lib.hid hO3;have HI3:=Lib.hid hb3;clear hO3 hb3)
          go_roundw
          case rel=>exact⟨j+1,q+1,F',d',by omega,by omega,by go_num,rfl,Lib.hid (by rw[HS2.out,List.length_append,<-HQ.out];rfl),Lib.hid (by rw[HS2.out,nums_snoc];exact HO3.out),Lib.hid (HRo.out.below HI3.out (by omega)),Lib.hid (HBe.out.trans (HI3.out.mono (by omega)))⟩
          case measure=>simp[intOf];omega
        | false =>
          have hS:=HS.out;rw[if_neg (fun z=>by have:=HRr.out.mpr z;cases this),List.append_nil]at hS
          have HS2:=Lib.hid hS;clear hS HS KC;go_wp2;go_roundw
          case rel=>exact⟨j+1,q,F,d1,by omega,by omega,by go_num,rfl,Lib.hid (by rw[HS2.out];exact HQ.out),Lib.hid (by rw[HS2.out];exact HOI.out),HRo,HBe⟩
          case measure=>simp[intOf];omega
      · obtain rfl:j=mn:=by omega
        go_wp2;refine bodyPost_ret (v:= .slice F q d1) ?_ rfl ⟨F,q,d1,rfl,HBe.out,by rw[HO.out];exact HQ.out.symm,by rw[HO.out];exact OwnI.down HOI.out (by omega)⟩
        simp[results,Tryz.results44,go_sem]
end Go.Proofs.YtlfekmbalgkmeaaGreatDoor
