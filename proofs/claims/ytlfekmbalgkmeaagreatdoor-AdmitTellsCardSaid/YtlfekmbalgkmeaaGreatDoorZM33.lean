import Derived.Test.YtlfekmbalgkmeaaGreatDoorZM32
import Derived.Test.YtlfekmbalgkmeaaGreatDoorZM31
import Derived.Test.YtlfekmbalgkmeaaGreatDoorZM12
import Derived.IntWalk
set_option linter.unusedSimpArgs false
set_option linter.unnecessarySimpa false
set_option linter.unusedVariables false
set_option maxRecDepth 100000
set_option maxHeartbeats 16000000
namespace Go.Proofs.YtlfekmbalgkmeaaGreatDoor
open Go Go.RowKit
def IPl(B:Nat)(wf:World)(D p:Nat)(s:Shp)(w:World):Prop:=Below B wf w/\D<=w.heap.size/\RowV p 44 (shpC s) w
def IntsO(w:World)(g:Nat)(A:Option Addr)(zs:List Int):Prop:=
 0<zs.length-> ∃b off,A=some ⟨b,off,none⟩/\b≠g/\b<w.heap.size/\ ∀k,k<zs.length->w.cell? ⟨b,off+k,none⟩=some (.int .i64 (zs.getD k 0))
theorem IntsO.turn{w w':World}{g:Nat}{A:Option Addr}{zs:List Int}(h:IntsO w g A zs)(ht:Turn1 g w w'):IntsO w' g A zs:=fun hn=>by
 obtain⟨b,off,e,h1,h2,h3⟩:=h hn;exact⟨b,off,e,h1,Nat.lt_of_lt_of_le h2 ht.size,fun k hk=>(World.cell?_of_block (a:=⟨b,off+k,none⟩) (ht.block b h2 h1)).trans (h3 k hk)⟩
theorem IntsO.at_{w:World}{g:Nat}{A:Option Addr}{zs:List Int}(h:IntsO w g A zs){k:Nat}{z:Int}(hk:zs[k]? =some z): ∃b off,A=some ⟨b,off,none⟩/\w.cell? ⟨b,off+k,none⟩=some (.int .i64 z):=by
 have hl:=(List.getElem?_eq_some_iff.mp hk).1
 obtain⟨b,off,e,h1,h2,h3⟩:=h (by omega)
 have:=h3 k hl;rw[List.getD_eq_getElem?_getD,hk]at this
 exact⟨b,off,e,this⟩
theorem AtB.ne{w:World}{g b off:Nat}{t:List (List Int)}{z:Int}(h:AtB g t w)(hc:w.cell? ⟨b,off,none⟩=some (.int .i64 z)):b≠g:=fun e=>by
 subst e;obtain⟨vs,h1,h2,h3⟩:=h;rw[cell_of_row _ _ _ _ _ _ h1]at hc;simp only[List.getElem?_toArray]at hc
 have hk:=(List.getElem?_eq_some_iff.mp hc).1
 obtain⟨A,n,d,e,_⟩:=h3 off _ _ (List.getElem?_eq_getElem (by omega)) hc
 cases e
theorem Ints.o{w:World}{B g:Nat}{A:Option Addr}{zs:List Int}{t:List (List Int)}(h:Ints w B A zs)(hB:B<=w.heap.size)(hA:AtB g t w):IntsO w g A zs:=fun hn=>by
 obtain⟨b,off,e,h1,h3⟩:=h hn;have:=h3 0 hn;exact⟨b,off,e,hA.ne this,by omega,h3⟩
theorem nums_len(l:List Nat):(nums l).length=l.length:=by simp[nums]
theorem placeLight_any{A:Option Addr}{n c:Nat}{S:List Shp}{F:Option Addr}{k d g:Nat}{u er:Int}{L:List Int}(wf:World)(hn:S.length=n)(h8:n<=8)(hgood: ∀s∈S,faultS s=0)(hS:Shps wf wf.heap.size A S)(hT:DTab wf)
    (hF:Ints wf wf.heap.size F (upto u k)) (hk8:k<=8) (hP:PlcA (lightP S) (k:Int) L er) (hA:AtB g (atH 0 S) wf):
    Calls Tryz.prog 63 #[.slice (some ⟨g,0,none⟩) n n, .slice A n c, .slice F k d] wf fun e w'=>e= .returned (.int .i64 (if er=0 then 0 else 171))/\Turn1 g wf w'/\(er=0->AtB g (atP u 0 S L) w'):=by
  have HN:=Lib.hid hn;have HS:=Lib.hid (fun W (b:Below wf.heap.size wf W)=>hS.via b)
  have HTB:=Lib.hid (fun W (b:Below wf.heap.size wf W)=>DTab.via hT b)
  have HFI:=Lib.hid (fun W (b:Below wf.heap.size wf W)=>hF.below b)
  have HG:=Lib.hid hgood;have HP:=Lib.hid hP;have HA:=Lib.hid hA;obtain⟨B,hB⟩: ∃B,B=wf.heap.size:=⟨_,rfl⟩;rw[<-hB]at HS HTB HFI;have B0:=Lib.hid (show Below B wf wf from Below.refl _ _)
  have HBs:=Lib.hid hB;have O1:=Lib.hid (show OwnI wf B (.slice none 0 0) []from⟨rfl, .inl ⟨rfl,rfl⟩⟩)
  have O2:=Lib.hid (show OwnS wf B (.slice none 0 0) []from OwnS.nil _ _)
  clear hn hS hT hF hgood hP hA hB;go_enter Tryz.func63,Tryz.ntmps63;go_wp2;go_loopw [7,8,17] (fun pv lv i wr=> ∃(j q:Nat) (F1:Option Addr) (d1:Nat) (F2:Option Addr) (d2:Nat),j<=n/\q<=j/\i= .int .i64 j/\pv= .slice F1 q d1/\lv= .slice F2 q d2/\Hid (q=(lightP (S.take j)).length)/\Hid (OwnI wr B pv (nums (idxT (S.take j))))/\Hid (OwnS wr B lv (lightP (S.take j)))/\Hid (Below B wf wr)) (fun _ _ i _=>n - (intOf i).toNat)
  case atStart=>exact⟨0,0,none,0,none,0,Nat.zero_le _,Nat.le_refl _,rfl,rfl,rfl,Lib.hid (by simp[lightP]),Lib.hid O1.out,Lib.hid O2.out,B0⟩
  case round=>
    obtain⟨j,q,F1,d1,F2,d2,hj,hqj,rfl,rfl,rfl,HQ,HO1,HO2,HB⟩:=hrel;clear O1 O2
    by_cases hlt:j<n
    · obtain⟨b,off,t,lg,mo,dd,pp,rfl,hbg,hek,c0,c1,c2,c3,c4⟩:=(HS.out wr HB.out).at_ (k:=j) (by rw[HN.out];exact hlt)
      have HK:=Lib.hid hek;clear hek;obtain⟨hv,hhv⟩: ∃hv,hv=heavyS ⟨t,lg,mo,dd,pp⟩:=⟨_,rfl⟩;have CH:=Lib.hid (fun W (hD:DTab W)=>cheavy_any ⟨t,lg,mo,dd,pp⟩ W hD)
      rw[<-hhv]at CH;have HHV:=Lib.hid hhv;unfold Shp.val at CH;clear hhv;dsimp only at CH;have hBw:B<=wr.heap.size:=by rw[HBs.out];exact HB.out.size
      have HD:=Lib.hid (HTB.out _ (HB.out.alloc hBw (.cells #[.int .i64 t, .int .i64 lg, .int .i64 mo, .int .i64 dd, .int .i64 pp] 44)));go_wp2_with fail;refine(CH.out _ HD.out).mono ?_
      rintro e w1 ⟨rfl,b1⟩;have HB1:=Lib.hid ((below_alloc (.cells #[.int .i64 t, .int .i64 lg, .int .i64 mo, .int .i64 dd, .int .i64 pp] 44)).trans (b1.mono (by simp)))
      have HRp:=Lib.hid (show RowV wr.heap.size 44 (shpC ⟨t,lg,mo,dd,pp⟩) w1 from(RowV.new wr 44 (shpC ⟨t,lg,mo,dd,pp⟩)).below b1 (by simp))
      have HP1:=Lib.hid (HO1.out.below HB1.out);have HP2:=Lib.hid (own_below HO2.out HB1.out);have HBB:=Lib.hid (HB.out.trans (HB1.out.mono hBw));clear b1 c0 c1 c2 c3 c4 CH HD;cases hv with
      | true =>
        go_wp2;go_roundw
        case rel=>exact⟨j+1,q,F1,d1,F2,d2,by omega,by omega,by go_num,rfl,rfl,Lib.hid (by rw[lightP_snoc HK.out,<-HHV.out,if_pos rfl,List.append_nil];exact HQ.out),Lib.hid (by rw[idxT_snoc HK.out,<-HHV.out,if_pos rfl,List.append_nil];exact HP1.out),Lib.hid (by rw[lightP_snoc HK.out,<-HHV.out,if_pos rfl,List.append_nil];exact HP2.out),HBB⟩
        case measure=>simp[intOf];omega
      | false =>
        go_wp2_with fail;obtain⟨p,hp⟩: ∃p,p=wr.heap.size:=⟨_,rfl⟩
        rw[<-hp]at HRp⊢;have hbP: ∀x,(Value.slice F1 q d1).ownBlock=some x->x<p:=fun x hx=>by
          obtain⟨_,cur,hh⟩:=own_at HO1.out hx;have:=(Array.getElem?_eq_some_iff.1 hh).1
          omega
        have hbL: ∀x,(Value.slice F2 q d2).ownBlock=some x->x<p:=fun x hx=>by
          obtain⟨_,cur,hh⟩:=own_at HO2.out hx;have:=(Array.getElem?_eq_some_iff.1 hh).1
          omega
        have HbP:=Lib.hid hbP;have HbL:=Lib.hid hbL;have HPp:=Lib.hid hp;clear hbP hbL hp;obtain⟨vP,hvP⟩: ∃v,v=Value.slice F1 q d1:=⟨_,rfl⟩;obtain⟨vL,hvL⟩: ∃v,v=Value.slice F2 q d2:=⟨_,rfl⟩;rw[<-hvP]at HbP HP1⊢;rw[<-hvL]at HbL HP2⊢;have HVP:=Lib.hid hvP;have HVL:=Lib.hid hvL;clear hvP hvL;obtain⟨zs,hzs⟩: ∃zs,zs=nums (idxT (S.take j)):=⟨_,rfl⟩;obtain⟨es,hes⟩: ∃es,es=lightP (S.take j):=⟨_,rfl⟩;rw[<-hzs]at HP1;rw[<-hes]at HP2 HQ;have HZ:=Lib.hid hzs;have HE:=Lib.hid hes;have HZL:=Lib.hid (show zs.length=q by rw[hzs,nums_len,idxT_len,<-hes,<-HQ.out])
        clear hzs hes;refine wp_region_univ0 [25,26,27,28,29,30,31,32,7,8] (by kernel_rfl) (by kernel_rfl) (by kernel_rfl) (by intro d hd;simp at hd⊢;omega) (by simp) (IPl B wf (p+1) p ⟨t,lg,mo,dd,pp⟩) (PhiPl B j q vP vL zs es ⟨t,lg,mo,dd,pp⟩) (PrePl B vP vL zs es) (RPl B vP vL zs es) ?hI ?hΦ ?hP ?h0 ?hp0 ?hstep ?hend
        case hI=>
          rintro i w w' ⟨q1,q2,q3⟩ hr;rcases rPl_ways hr with⟨_,hO,hg⟩|⟨_,hO,hg⟩|⟨_,_,hb⟩
          · refine⟨q1.grown hg (by rw[HBs.out];exact q1.size) (fun x hx=>(own_at hO hx).1),Nat.le_trans q2 hg.size,heap_grown hg q3 fun e=> ?_⟩
            have:=HbP.out p e;omega
          · refine⟨q1.grown hg (by rw[HBs.out];exact q1.size) (fun x hx=>(own_at hO hx).1),Nat.le_trans q2 hg.size,heap_grown hg q3 fun e=> ?_⟩
            have:=HbL.out p e;omega
          · exact⟨q1.trans (hb.mono (by rw[HBs.out];exact q1.size)),Nat.le_trans q2 hb.size,heap_below hb q3⟩
        case hΦ=>
          intro i x v w w' hki hnw h hr;refine phiPl_keep hki ?_ ?_ h hr
          · rintro⟨rfl,rfl⟩;have:=hnw _ rfl;simp[Region.binds]at this
          · rintro⟨rfl,rfl⟩;have:=hnw _ rfl;simp[Region.binds]at this
        case hP=>
          intro i x w w' hki h hr
          match x,hki,h with
          |0,_,_=>exact trivial
          |1,_,_=>exact trivial
          |2,_,_=>exact trivial
          | 3, hki, h =>
            rcases rPl_ways hr with⟨e,_,_⟩|⟨_,hO,hg⟩|⟨_,_,hb⟩
            · exact absurd e.symm hki
            · exact OwnI.grown h hg (fun y hy=>own_apart h hO int_ne_shape y hy)
            · exact OwnI.below h hb
          |4,_,_=>exact trivial
          |5,_,_=>exact trivial
          |6,_,_=>exact trivial
          | 7, hki, h =>
            rcases rPl_ways hr with⟨_,hO,hg⟩|⟨e,_,_⟩|⟨_,_,hb⟩
            · exact OwnS.grown h hg (fun y hy=>own_apart h hO int_ne_shape.symm y hy)
            · exact absurd e.symm hki
            · exact own_below h hb
          |x+8,_,_=>exact trivial
        case h0=>exact⟨HBB.out.drew,Nat.succ_le_of_lt HRp.out.lt,HRp.out⟩
        case hp0=>
          intro x
          match x with
          |0=>exact trivial
          |1=>exact trivial
          |2=>exact trivial
          |3=>exact HP1.out
          |4=>exact trivial
          |5=>exact trivial
          |6=>exact trivial
          |7=>exact HP2.out
          |x+8=>exact trivial
        case hstep=>
          intro x o ho a w hI hPre hA hd hl K hK;obtain⟨ρ,hρ⟩: ∃ρ,a.eval=ρ:=⟨_,rfl⟩;rw[hρ]at hA hd hl
          match x,ho,hPre,hl,hK with
          | 0, ho, hPre, hl, hK =>
            have f7:ρ (.tmp 7)=vP:=hl 8 _ rfl (by kernel_rfl)
            have hoo:=Option.some.inj ho;subst hoo;exact ux_val hK hρ (by decide) vP w (by simp[execOp,f7,go_sem]) rfl (Below.refl _ _)
          | 1, ho, hPre, hl, hK =>
            have hoo:=Option.some.inj ho;subst hoo;have h9:=hA.tmp 9 (by decide)
            exact ux_val hK hρ (by decide) (.int .i64 j) w (by simp[execOp,h9,go_sem]) rfl (Below.refl _ _)
          | 2, ho, hPre, hl, hK =>
            have hoo:=Option.some.inj ho;subst hoo;have f1:ρ (.tmp 26)= .int .i64 j:=hd ⟨1, .data⟩ (by simp) (by rfl)
            refine ux_val hK hρ (by decide) (.slice (some ⟨w.heap.size,0,none⟩) 1 1) (w.alloc (.cells #[.int .i64 j] 3)) (by simp[execOp,f1,go_sem]) ⟨_,rfl,heap_alloc_new w _,fun e=> ?_⟩ (below_alloc _)
            have:=HbP.out _ e;have:=hI.2.1;omega
          | 3, ho, hPre, hl, hK =>
            have hoo:=Option.some.inj ho;subst hoo;have f0:ρ (.tmp 25)=vP:=hd ⟨0, .data⟩ (by simp) (by rfl)
            obtain⟨b2,f2,hb2,hne2⟩:PhiPl B j q vP vL zs es ⟨t,lg,mo,dd,pp⟩ 2 (ρ (.tmp 27)) w:=hd ⟨2, .data⟩ (by simp) (by rfl)
            obtain⟨F',d',w',hr,hO',hg'⟩:=push_int (n:=q) HZL.out hPre hb2 (by omega) (by rw[HBs.out];exact hI.1.size)
            exact ux_val hK hρ (by decide) (.slice F' (q+1) d') w' (exec_append16 (.tmp 25) (.tmp 27) 40 _ _ rfl f0 f2 hr) ⟨F',d',rfl,hO'⟩ ⟨hPre,hg'⟩
          | 4, ho, hPre, hl, hK =>
            have f8:ρ (.tmp 8)=vL:=hl 9 _ rfl (by kernel_rfl)
            have hoo:=Option.some.inj ho;subst hoo;exact ux_val hK hρ (by decide) vL w (by simp[execOp,f8,go_sem]) rfl (Below.refl _ _)
          | 5, ho, hPre, hl, hK =>
            have hoo:=Option.some.inj ho;subst hoo;have h10:=hA.tmp 10 (by decide)
            have q0:=hI.2.2.cell (j:=0) rfl;have q1:=hI.2.2.cell (j:=1) rfl;have q2:=hI.2.2.cell (j:=2) rfl;have q3:=hI.2.2.cell (j:=3) rfl;have q4:=hI.2.2.cell (j:=4) rfl;exact ux_val hK hρ (by decide) (.agg #[.int .i64 t, .int .i64 lg, .int .i64 mo, .int .i64 dd, .int .i64 pp]) w (by simp[execOp,h10,q0,q1,q2,q3,q4,go_sem]) rfl (Below.refl _ _)
          | 6, ho, hPre, hl, hK =>
            have hoo:=Option.some.inj ho;subst hoo;have f5:ρ (.tmp 30)= .agg #[.int .i64 t, .int .i64 lg, .int .i64 mo, .int .i64 dd, .int .i64 pp]:=hd ⟨5, .data⟩ (by simp) (by rfl)
            refine ux_val hK hρ (by decide) (.slice (some ⟨w.heap.size,0,none⟩) 1 1) (w.alloc (.cells (shpC ⟨t,lg,mo,dd,pp⟩).toArray 44)) (by simp[execOp,f5,shpC,go_sem]) ⟨_,rfl,heap_alloc_new w _,fun e=> ?_⟩ (below_alloc _)
            have:=HbL.out _ e;have:=hI.2.1;omega
          | 7, ho, hPre, hl, hK =>
            have hoo:=Option.some.inj ho;subst hoo;have f4:ρ (.tmp 29)=vL:=hd ⟨4, .data⟩ (by simp) (by rfl)
            obtain⟨b6,f6,hb6,hne6⟩:PhiPl B j q vP vL zs es ⟨t,lg,mo,dd,pp⟩ 6 (ρ (.tmp 31)) w:=hd ⟨6, .data⟩ (by simp) (by rfl)
            obtain⟨F',d',w',hr,hO',hg'⟩:=push_shp (n:=q) HQ.out.symm hPre hb6 (by omega) (by rw[HBs.out];exact hI.1.size)
            exact ux_val hK hρ (by decide) (.slice F' (q+1) d') w' (exec_append16 (.tmp 29) (.tmp 31) 25 _ _ rfl f4 f6 hr) ⟨F',d',rfl,hO'⟩ ⟨hPre,hg'⟩
          | 8, ho, hPre, hl, hK =>
            have hoo:=Option.some.inj ho;subst hoo;have f3:PhiPl B j q vP vL zs es ⟨t,lg,mo,dd,pp⟩ 3 (ρ (.tmp 28)) w:=hd ⟨3, .data⟩ (by simp) (by rfl)
            exact ux_val hK hρ (by decide) (ρ (.tmp 28)) w (by simp[execOp,go_sem]) f3 (Below.refl _ _)
          | 9, ho, hPre, hl, hK =>
            have hoo:=Option.some.inj ho;subst hoo;have f7:PhiPl B j q vP vL zs es ⟨t,lg,mo,dd,pp⟩ 7 (ρ (.tmp 32)) w:=hd ⟨7, .data⟩ (by simp) (by rfl)
            exact ux_val hK hρ (by decide) (ρ (.tmp 32)) w (by simp[execOp,go_sem]) f7 (Below.refl _ _)
          |x+10,ho,_,_,_=>simp at ho
        case hend=>
          intro vals w2 hI hF;obtain⟨F',d',e8,hO'⟩:PhiPl B j q vP vL zs es ⟨t,lg,mo,dd,pp⟩ 8 (vals 7) w2:=hF 8 (by decide)
          obtain⟨G',c',e9,hS'⟩:PhiPl B j q vP vL zs es ⟨t,lg,mo,dd,pp⟩ 9 (vals 8) w2:=hF 9 (by decide)
          rw[e8]at hO';rw[e9]at hS';have HO':=Lib.hid hO';have HS':=Lib.hid hS';have HI:=Lib.hid hI.1;clear hF hI hO' hS';simp only[fillA,fillL,List.contains_cons,List.contains_nil,Nat.reduceBEq,Bool.or_false,Bool.false_or,Bool.or_true,Bool.true_or,cond_true,cond_false,Nat.zero_add,Nat.reduceAdd,e8,e9];clear e8 e9;go_wp2;go_roundw
          case rel=>exact⟨j+1,q+1,F',d',G',c',by omega,by omega,by go_num,rfl,rfl,Lib.hid (by rw[lightP_snoc HK.out,<-HHV.out,if_neg (by simp),List.length_append,<-HE.out,<-HQ.out];rfl),Lib.hid (by rw[idxT_snoc HK.out,<-HHV.out,if_neg (by simp),nums_snoc,<-HZ.out];exact HO'.out),Lib.hid (by rw[lightP_snoc HK.out,<-HHV.out,if_neg (by simp),<-HE.out];exact HS'.out),HI⟩
          case measure=>simp[intOf];omega
    · obtain rfl:j=n:=by omega
      have hall:S.take j=S:=List.take_of_length_le (by rw[HN.out];exact Nat.le_refl _)
      rw[hall]at HQ HO1 HO2;clear hall;obtain⟨F2',c2',e2,hS2,_⟩:=HO2.out.slice;have hq2:c2'=d2/\F2'=F2:=by
        injection e2 with a1 a2 a3;exact⟨a3.symm,a1.symm⟩
      obtain⟨rfl,rfl⟩:=hq2;have KP:=Lib.hid (place_any (c:=c2') (k:Int) HP.out wr (HTB.out wr HB.out) HQ.out.symm (by omega) hS2)
      have HLn:=Lib.hid HP.out;have HBw:=Lib.hid (show B<=wr.heap.size by rw[HBs.out];exact HB.out.size)
      have HAt:=Lib.hid (HA.out.next (by rw[<-HBs.out];exact HB.out))
      have HgB:=Lib.hid (show g<B by rw[HBs.out];exact HA.out.lt)
      have HI1:=Lib.hid (show IntsO wr g F1 (nums (idxT S))from fun hp=>by
        obtain⟨A',n',d',e',_,h2,_⟩:=ElV.of HO1.out (Nat.le_refl B);injection e' with a1 a2 a3;subst a1;obtain⟨b,off,e,p1,p2,p3⟩:=h2 hp;exact⟨b,off,e,by have:=HgB.out;omega,p2,p3⟩)
      have HI3:=Lib.hid ((HFI.out wr HB.out).o HBw.out HAt.out);have HD:=Lib.hid (HTB.out wr HB.out);clear hS2 e2 HA HO2 HO1 HFI HTB HS;go_wp2_with fail;refine(KP.out).mono ?_
      rintro e w1 ⟨A1,n1,c1,rfl,hl1,hO,b1⟩;have HT1:=Lib.hid (show Turn1 g wf w1 from Turn1.of ((show Below wf.heap.size wf wr by rw[<-HBs.out];exact HB.out).trans (b1.mono (by rw[<-HBs.out];exact HBw.out))))
      have HA1:=Lib.hid (HAt.out.next b1);have HJ1:=Lib.hid (HI1.out.turn (Turn1.of b1));have HJ3:=Lib.hid (HI3.out.turn (Turn1.of b1));have HJ2:=Lib.hid (show IntsO w1 g A1 L from fun hp=>by
        obtain⟨A',n',d',e',_,h2,_⟩:=ElV.of hO (Nat.le_refl wr.heap.size);injection e' with a1 a2 a3;subst a1;obtain⟨b,off,e,p1,p2,p3⟩:=h2 hp;exact⟨b,off,e,by have:=HgB.out;have:=HBw.out;omega,p2,p3⟩)
      have HL1:=Lib.hid hl1;clear hO b1 hl1 HI1 HI3 HAt KP HD
      by_cases h0:er=0
      · subst h0;obtain⟨hlen,hbd⟩:=PlcA.len HLn.out;have HBD:=Lib.hid hbd;have hn1:n1=q:=by rw[<-HL1.out,hlen,<-HQ.out]
        subst hn1;have hA0:AtB g (atK u 0 S L 0) w1:=by rw[atK_zero];exact HA1.out
        have HA0:=Lib.hid hA0;have HGd:=Lib.hid (show(0:Int)=0->True from fun _=>trivial)
        clear hlen hbd hA0 HA1;go_wp2;go_loopw [45] (fun i wq=> ∃x:Nat,x<=n1/\i= .int .i64 x/\Hid (AtB g (atK u 0 S L x) wq)/\Hid (Turn1 g wf wq)/\Hid (IntsO wq g F1 (nums (idxT S)))/\Hid (IntsO wq g A1 L)/\Hid (IntsO wq g F (upto u k))) (fun i _=>n1 - (intOf i).toNat)
        case atStart=>exact⟨0,Nat.zero_le _,rfl,HA0,HT1,HJ1,HJ2,HJ3⟩
        case round=>
          obtain⟨x,hx,rfl,HA,HT,H1,H2,H3⟩:=hrel
          by_cases hxn:x<n1
          · obtain⟨i,hi⟩: ∃i,(idxT S)[x]? =some i:=⟨_,List.getElem?_eq_getElem (by rw[idxT_len,<-HQ.out];exact hxn)⟩
            obtain⟨z,hz⟩: ∃z,L[x]? =some z:=⟨_,List.getElem?_eq_getElem (by rw[HL1.out];exact hxn)⟩
            have hzb:=HBD.out z (List.mem_of_getElem? hz)
            obtain⟨y,rfl⟩: ∃y:Nat,z=(y:Int):=⟨z.toNat,by omega⟩
            have hy:y<k:=by omega
            have hil:i<j:=by have:=idxT_lt (List.mem_of_getElem? hi);rw[HN.out]at this;exact this
            obtain⟨b1,o1,rfl,d1'⟩:=H1.out.at_ (k:=x) (z:=(i:Int)) (by unfold nums;rw[List.getElem?_map,hi];rfl)
            obtain⟨b2,o2,rfl,d2'⟩:=H2.out.at_ hz;obtain⟨b3,o3,rfl,d3'⟩:=H3.out.at_ (upto_at hy);obtain⟨v0,hc0,hf0⟩:=HA.out.cell (k:=i) (by rw[atK_len,HN.out];exact hil)
            obtain⟨zz,hzz⟩: ∃zz,zz=u+(y:Int):=⟨_,rfl⟩;rw[<-hzz]at d3';obtain⟨w2,hw2⟩: ∃w2,w2=wr.alloc (.cells #[.int .i64 zz] 3):=⟨_,rfl⟩;have hb2:Below wr.heap.size wr w2:=by rw[hw2];exact below_alloc _
            have hA2:=HA.out.next hb2;have hc2:w2.cell? ⟨g,i,none⟩=some v0:=(hb2.cell (p:=⟨g,i,none⟩) HA.out.lt).trans hc0
            have hf2:w2.frozen? ⟨g,i,none⟩=false:=(hb2.frozen (p:=⟨g,i,none⟩) HA.out.lt).trans hf0
            have hel:ElV w2 (g+1) [zz] (.slice (some ⟨wr.heap.size,0,none⟩) 1 1):=⟨_,_,_,rfl,rfl,fun _=>⟨wr.heap.size,0,rfl,HA.out.lt,by rw[hw2];simp,fun t ht=>by
              obtain rfl:t=0:=by simpa using ht
              rw[hw2];exact World.cell?_alloc_at _ _ _ _ rfl⟩,fun e=>by cases e⟩
            have hA3:=hA2.set i hel;have hd:(L.drop x).headD 0=(y:Int):=by
              have hl:=(List.getElem?_eq_some_iff.mp hz).1
              rw[List.drop_eq_getElem_cons hl,List.headD_cons];exact(List.getElem?_eq_some_iff.mp hz).2
            have hst:=atK_set u S 0 L x i hi;rw[hd,<-hzz]at hst;rw[hst]at hA3;have ht3:Turn1 g wr (w2.setCell ⟨g,i,none⟩ (.slice (some ⟨wr.heap.size,0,none⟩) 1 1)):=
              (Turn1.of hb2).trans ⟨rfl,rfl,rfl,by simp,fun t ht hne=>Below.heap_setCell w2 ⟨g,i,none⟩ _ t hne⟩
            rw[hw2]at hc2 hf2 hA3 ht3;have HA3:=Lib.hid hA3;have HT3:=Lib.hid ht3;have HZ:=Lib.hid hzz;have HIS:=Lib.hid hi;have HZS:=Lib.hid hz;clear hA2 hA3 ht3 hst hd hel hc0 hf0 hw2 hb2 hzz hi hz;go_wp2;go_roundw
            case rel=>exact⟨x+1,by omega,by go_num,HA3,Lib.hid (HT.out.trans HT3.out),Lib.hid (H1.out.turn HT3.out),Lib.hid (H2.out.turn HT3.out),Lib.hid (H3.out.turn HT3.out)⟩
            case measure=>simp[intOf];omega
          · obtain rfl:x=n1:=by omega
            have HA':=Lib.hid (show AtB g (atP u 0 S L) wr by have:=HA.out;rw[atK_all u S 0 L x (by rw[<-HQ.out];exact Nat.le_refl _)]at this;exact this)
            go_wp2;refine bodyPost_ret (v:= .int .i64 0) ?_ rfl (by first|exact⟨rfl,HT.out,fun _=>HA'.out⟩|exact⟨rfl,HT.out,HA'.out⟩)
            simp[results,Tryz.results63,go_sem]
      · have hgd:(er==0)=false:=by simpa using h0
        go_wp2;refine bodyPost_ret (v:= .int .i64 171) ?_ rfl (by first|exact⟨rfl,HT1.out⟩|exact⟨rfl,HT1.out,fun e=>absurd e h0⟩)
        simp[results,Tryz.results63,go_sem]
end Go.Proofs.YtlfekmbalgkmeaaGreatDoor
namespace Go.Proofs.YtlfekmbalgkmeaaGreatDoor
open Go Go.RowKit Go.Conc
theorem make_chan17(n:Nat)(hn:n<=1000)(w:World):(Instr.makeChan 98 (.int .i64 n)).run Tryz.prog w= .ok (.chan (some w.heap.size)) (w.alloc (.chan n #[] false 0 0 false)):=by
  obtain⟨i0,hi0,hz0,hz1,hz2⟩: ∃i,Tryz.prog.info? 3=some i/\i.zero=some (.int .i64 0)/\i.size=1/\i.bytes=8:=by
    have h:=int_cell_info;cases hi:Tryz.prog.info? 3 with
    |none=>rw[hi]at h;cases h
    | some i =>
      rw[hi]at h;simp at h;exact⟨i,rfl,h.1,h.2.1,h.2.2⟩
  exact run_makeChan (P:=Tryz.prog) (w:=w) Tryz.underlying98 hi0 .i64 n (by omega) (by rw[hz2];omega)
theorem free_any(n:Nat)(hn:n<=8)(w:World):Calls Tryz.prog 61 #[.int .i64 n] w fun e w'=>e= .returned (.chan (some w.heap.size))/\(ChanI w' w.heap.size n (upto 0 n) false/\Below w.heap.size w w'):=by
 refine calls_of_loneTo fun cs=> ?_
 have e:Frame.enter Tryz.prog 61 #[.int .i64 n] .normal=(base 61).at ⟨#[.int .i64 n,undef,undef,undef,undef,undef,undef,undef,undef,undef,undef,undef,undef,undef,undef],[]⟩ [.code (Tryz.f61.body.getD .skip)]:=by
  simp[Frame.enter,Frame.at,Tryz.func61,base,Tryz.f61]
 rw[e];have hmc:=make_chan17 n (by omega)
 refine LoneTo.goes (n:=60) ?_
 simp only[Tryz.f61,Option.getD_some]
 s_c stepG_seq
 s_reg
 s_op
 s_c stepG_region_end
 s_c stepG_seq
 s_reg
 s_op
 s_op
 s_op
 s_c stepG_region_end
 s_c stepG_seq
 s_c stepG_seq
 s_reg
 s_op
 s_op
 s_c stepG_region_end
 s_c stepG_block
 s_stop
 obtain⟨c,hc⟩: ∃c,c=w.heap.size:=⟨_,rfl⟩;have H0:ChanI (w.alloc (.chan n #[] false 0 0 false)) c n (upto 0 0) false:=⟨0,0,by rw[hc];exact heap_alloc_new w _⟩
 have B0:Below c w (w.alloc (.chan n #[] false 0 0 false)):=by rw[hc];exact below_alloc _
 rw[<-hc];clear e hmc hc;refine lone_loop (fun m a w'=> ∃(j:Nat) (t4 t9 t10 t11 t12 t13:Value),j+m=n/\a=⟨#[.int .i64 n,undef,.chan none,.chan (some c),t4,.int .i64 n,.chan (some c),.int .i64 n,.int .i64 j,t9,t10,t11,t12,t13,undef],[]⟩/\ChanI w' c n (upto 0 j) false/\Below c w w') ?_
  (⟨0,_,_,_,_,_,_,Nat.zero_add n,rfl,H0,B0⟩: ∃(j:Nat) (t4 t9 t10 t11 t12 t13:Value),_)
 rintro m a w1 ⟨j,t4,t9,t10,t11,t12,t13,hj,rfl,hC,hB⟩;obtain⟨s,r,hC⟩:=hC
 by_cases hlt:j<n
 ·have hd: decide ((j: Int) < (n: Int)) = true:=decide_eq_true (by omega)
  have hwr:IntKind.wrap .i64 ((j:Int)+1)=(j:Int)+1:=IntWalk.i64_in _ (by omega)
  refine LoneTo.goes (n:=60) ?_
  s_c stepG_seq
  s_reg
  s_op
  s_c stepG_region_end
  s_c stepG_seq
  s_cond true
  s_c stepG_skip
  s_c stepG_seq
  s_c stepG_block
  s_c stepG_seq
  s_reg
  s_op
  s_op
  s_c stepG_region_end
  s_reg
  s_op
  s_op
  s_stop
  refine LoneTo.step (step_lone_send_room (c:=c) (cap:=n) (buf:=((upto 0 j).map (Value.int .i64)).toArray) (s:=s) (r:=r) (tm:=false) (stepG_comm (cases:=#[scase c (.int .i64 j) (.tuple #[])]) (blocking:=true) (shape:=.send) (w':=w1) rfl rfl (by decide) (by simp[execOp,scase,Act.eval])) hC (by simp[upto_len];omega)) ?_
  rw[Frame.finish_at]
  walk_nrm
  refine LoneTo.goes (n:=60) ?_
  s_c stepG_region_end
  s_c stepG_inBlock
  s_reg
  s_op
  s_op
  s_c stepG_region_end
  s_stop
  have hlt1:c<w1.heap.size:=(Array.getElem?_eq_some_iff.1 hC).1
  have hbuf:((upto 0 j).map (Value.int .i64)).toArray.push (.int .i64 j)=((upto 0 (j+1)).map (Value.int .i64)).toArray:=by
   rw[upto_succ];simp
  refine LoneTo.done (.inl ⟨m - 1,_,by omega,rfl,j+1,_,_,_,_,_,_,by omega,rfl,?_,below_setChan hB (Nat.le_refl _) _ _ _ _ _ _⟩)
  ·have:=chan_set (cap:=n) w1 hlt1 (upto 0 (j + 1)) false (s + 1) r
   rw[<-hbuf]at this
   simpa using this
 ·have hd: decide ((j: Int) < (n: Int)) = false:=decide_eq_false (by omega)
  obtain rfl:j=n:=by omega
  refine LoneTo.goes (n:=60) ?_
  s_c stepG_seq
  s_reg
  s_op
  s_c stepG_region_end
  s_c stepG_seq
  s_cond false
  s_exit
  s_c stepG_seq
  s_reg
  s_op
  s_op
  s_c stepG_region_end
  s_c stepG_ret'
  s_stop
  refine LoneTo.done (.inr (LoneTo.done ⟨.returned (.chan (some c)),_,rfl,⟨rfl,⟨s,r,hC⟩,hB⟩,rfl,rfl,rfl,rfl,_,Tryz.func61,by simp[results,Tryz.f61,Frame.at]⟩))
theorem make_room17(n:Nat)(hn:n<=1000)(base:Nat)(w:World)(hb:base<=w.heap.size): ∃w',(Instr.makeSlice 40 (.int .i64 0) (.int .i64 n)).run Tryz.prog w= .ok (.slice (some ⟨w.heap.size,0,none⟩) 0 n) w'/\OwnI w' base (.slice (some ⟨w.heap.size,0,none⟩) 0 n) []/\Below w.heap.size w w':=by
  obtain⟨i0,hi0,hz0,hz1,hz2⟩: ∃i,Tryz.prog.info? 3=some i/\i.zero=some (.int .i64 0)/\i.size=1/\i.bytes=8:=by
    have h:=int_cell_info;cases hi:Tryz.prog.info? 3 with
    |none=>rw[hi]at h;cases h
    | some i =>
      rw[hi]at h;simp at h;exact⟨i,rfl,h.1,h.2.1,h.2.2⟩
  obtain⟨w',h1,h2,h3⟩:=run_make_own (P:=Tryz.prog) w base 40 3 i0 (.int .i64 0) 1 Tryz.underlying40 hi0 hz0 hz1 .i64 .i64 n (by rw[hz2];omega) (by unfold maxLen;omega) hb
  exact⟨w',h1,h2,(Below.refl _ w).grown h3 (Nat.le_refl _) (fun k hk=>by cases hk)⟩
theorem take_any(n c cap:Nat)(zs:List Int)(hn:n<=8)(w:World)(hC:ChanI w c cap zs false):Calls Tryz.prog 62 #[.chan (some c),.int .i64 n] w fun e w'=>
  ∃(A:Option Addr) (k d:Nat) (r:Bool),e= .returned (.tuple #[.slice A k d,.bool r])/\Turn1 c w w'/\((n<=zs.length/\r=true/\k=n/\OwnI w' w.heap.size (.slice A n d) (zs.take n)/\ChanI w' c cap (zs.drop n) false)\/(zs.length<n/\r=false/\A=none/\k=0/\d=0)):=by
 have hcl:=hC.lt;refine calls_of_loneTo fun cs=> ?_
 have e:Frame.enter Tryz.prog 62 #[.chan (some c),.int .i64 n] .normal=(base 62).at ⟨#[.chan (some c),.int .i64 n,undef,undef,undef,undef,undef,undef,undef,undef,undef,undef,undef,undef,undef,undef,undef,undef,undef,undef,undef,undef,undef,undef],[]⟩ [.code (Tryz.f62.body.getD .skip)]:=by
  simp[Frame.enter,Frame.at,Tryz.func62,base,Tryz.f62]
 rw[e];obtain⟨w0,hm0,hO0,hb0⟩:=make_room17 n (by omega) w.heap.size w (Nat.le_refl _)
 have H0:=hC.below hb0 hcl;have T0:Turn1 c w w0:=.of hb0;obtain⟨F0,hF0⟩: ∃F,F=(some ⟨w.heap.size,0,none⟩:Option Addr):=⟨_,rfl⟩;rw[<-hF0]at hm0 hO0;obtain⟨B,hB⟩: ∃B,B=w.heap.size:=⟨_,rfl⟩;rw[<-hB]at hO0 hcl⊢;clear hb0 hC hF0;refine LoneTo.goes (n:=60) ?_
 simp only[Tryz.f62,Option.getD_some]
 s_c stepG_seq
 s_reg
 s_op
 s_op
 s_c stepG_region_end
 s_c stepG_seq
 s_reg
 s_op
 s_op
 s_op
 s_c stepG_region_end
 s_c stepG_seq
 s_c stepG_seq
 s_reg
 s_op
 s_op
 s_c stepG_region_end
 s_c stepG_block
 s_stop
 clear e hm0;refine lone_loop (fun m a w'=> ∃(j d:Nat) (F:Option Addr) (t7 t9 t12 t13 t14 t15 t16 t17 t18 t19 t20 t21 t22:Value),j+m=n/\j<=zs.length/\a=⟨#[.chan (some c),.int .i64 n,undef,undef,.slice none 0 0,.bool false,.slice F j d,t7,.int .i64 n,t9,.int .i64 n,.int .i64 j,t12,t13,t14,t15,t16,t17,t18,t19,t20,t21,t22,undef],[]⟩/\
   OwnI w' B (.slice F j d) (zs.take j)/\ChanI w' c cap (zs.drop j) false/\Turn1 c w w') ?_
  (⟨0,n,F0,_,_,_,_,_,_,_,_,_,_,_,_,_,Nat.zero_add n,Nat.zero_le _,rfl,hO0,H0,T0⟩: ∃(j d:Nat) (F:Option Addr) (t7 t9 t12 t13 t14 t15 t16 t17 t18 t19 t20 t21 t22:Value),_)
 rintro m a w1 ⟨j,d,F,t7,t9,t12,t13,t14,t15,t16,t17,t18,t19,t20,t21,t22,hj,hjl,rfl,hO,⟨s,r,hC⟩,hT⟩
 by_cases hlt:j<n
 ·have hd: decide ((j: Int) < (n: Int)) = true:=decide_eq_true (by omega)
  have hwr:IntKind.wrap .i64 ((j:Int)+1)=(j:Int)+1:=IntWalk.i64_in _ (by omega)
  refine LoneTo.goes (n:=60) ?_
  s_c stepG_seq
  s_reg
  s_op
  s_c stepG_region_end
  s_c stepG_seq
  s_cond true
  s_c stepG_skip
  s_c stepG_seq
  s_c stepG_block
  s_c stepG_seq
  s_reg
  s_op
  s_c stepG_region_end
  s_c stepG_seq
  s_reg
  s_stop
  by_cases hz:j<zs.length
  ·obtain ⟨z,hzj⟩: ∃ z,zs[j]? = some z:=⟨_,List.getElem?_eq_getElem hz⟩
   have hdr:zs.drop j=z::zs.drop (j+1):=by
    rw[List.drop_eq_getElem_cons hz];congr 1
    simpa[List.getElem?_eq_getElem hz]using hzj
   rw[hdr]at hC;simp only[List.map_cons]at hC;refine LoneTo.step (step_lone_select_recv_buf (c:=c) (z:=.int .i64 0) (stepG_comm (cases:=#[rcase c (.int .i64 0)]) (blocking:=false) (shape:=.select) (w':=w1) rfl rfl (by decide) (by simp[go_sem,execOp,rcase,Act.eval])) hC (by simp)) ?_
   have hcl1:c<w1.heap.size:=(Array.getElem?_eq_some_iff.1 hC).1
   have hC2:ChanI (w1.setChan c cap ((zs.drop (j+1)).map (Value.int .i64)).toArray false s (r+1) false) c cap (zs.drop (j+1)) false:=chan_set w1 hcl1 _ _ _ _;have hO2:=hO.chan (cap:=cap) (buf:=((zs.drop (j+1)).map (Value.int .i64)).toArray) (cl:=false) (s:=s) (r:=r+1) (tm:=false) hcl;have hT2:=hT.setChan (cap:=cap) (buf:=((zs.drop (j+1)).map (Value.int .i64)).toArray) (cl:=false) (s:=s) (r:=r+1) (tm:=false);have hx1:(Value.int .i64 z::List.map (Value.int .i64) (zs.drop (j+1))).toArray.extract 1 (Value.int .i64 z::List.map (Value.int .i64) (zs.drop (j+1))).toArray.size=((zs.drop (j+1)).map (Value.int .i64)).toArray:=by
    apply Array.toList_inj.mp
    simp
    exact List.take_of_length_le (by simp)
   rw[hx1,Frame.finish_at];obtain⟨w2,hw2⟩: ∃w2,w2=w1.setChan c cap ((zs.drop (j+1)).map (Value.int .i64)).toArray false s (r+1) false:=⟨_,rfl⟩;rw[<-hw2]at hC2 hO2 hT2⊢;clear hC hO hT hx1 hw2
   walk_nrm
   refine LoneTo.goes (n:=60) ?_
   s_op
   s_op
   s_c stepG_region_end
   s_c stepG_block
   s_cond true
   s_c stepG_seq
   s_reg
   s_op
   s_op
   s_c stepG_region_end
   s_stop
   have hBs:B<=w2.heap.size:=by rw[hB];exact hT2.size
   obtain⟨R,hR⟩: ∃R:Act->World->Prop,R=fun a' w3=> ∃(F':Option Addr) (d':Nat) (t18 t19 t20 t21:Value),a'=⟨#[.chan (some c),.int .i64 n,undef,undef,.slice none 0 0,.bool false,.slice F' (j+1) d',.int .i64 z,.int .i64 n,t9,.int .i64 n,.int .i64 j,.bool true,.chan (some c),.tuple #[.int .i64 0,.bool true,.int .i64 z],.int .i64 0,.bool true,.int .i64 z,t18,t19,t20,t21,t22,undef],[]⟩/\OwnI w3 B (.slice F' (j+1) d') (zs.take j++ [z])/\Below B w2 w3:=⟨_,rfl⟩
   have HB:=Lib.hid hB;have HR:=Lib.hid hR;clear hB hR;refine lone_code (R:=R) ?_ ?_
   ·go_wp2_with (at_builtin; refine wpList_push rfl _ _ rfl w2 B _ _ z j (by simp; omega) (by omega) hO2 hBs rfl rfl ?_; intro F' d' w3 hO3 hb3; have HO3:=Lib.hid hO3; have HI3:=Lib.hid hb3; clear hO3 hb3)
    rw[HR.out];exact⟨F',d',_,_,_,_,rfl,HO3.out,HI3.out⟩
   ·have hB:=HB.out
    rw[HR.out];clear HB HR;rintro a' w3 ⟨F',d',t18,t19,t20,t21,rfl,hO3,hb3⟩;refine LoneTo.goes (n:=60) ?_
    s_c stepG_inBlock
    s_c stepG_inBlock
    s_reg
    s_op
    s_op
    s_c stepG_region_end
    s_stop
    rw[<-take_one hzj]at hO3;rw[hB]at hb3;exact LoneTo.done (.inl ⟨m - 1,_,by omega,rfl,j+1,d',F',_,_,_,_,_,_,_,_,_,_,_,_,_,by omega,by omega,rfl,hO3,hC2.below (by rw[hB]at hcl;exact hb3) (by omega),hT2.more hb3⟩)
  ·have hz2: zs.drop j = []:=List.drop_eq_nil_of_le (by omega)
   rw[hz2]at hC;refine LoneTo.step (step_lone_select_default (c:=c) (z:=.int .i64 0) (cap:=cap) (s:=s) (r:=r) (tm:=false) (stepG_comm (cases:=#[rcase c (.int .i64 0)]) (blocking:=false) (shape:=.select) (w':=w1) rfl rfl (by decide) (by simp[go_sem,execOp,rcase,Act.eval])) hC) ?_
   rw[Frame.finish_at]
   walk_nrm
   refine LoneTo.goes (n:=60) ?_
   s_op
   s_op
   s_c stepG_region_end
   s_c stepG_block
   s_cond false
   s_c stepG_seq
   s_reg
   s_op
   s_op
   s_c stepG_region_end
   s_c stepG_ret'
   s_stop
   exact LoneTo.done (.inr (LoneTo.done ⟨.returned (.tuple #[.slice none 0 0,.bool false]),_,rfl,⟨none,0,0,false,rfl,hT,.inr ⟨by omega,rfl,rfl,rfl,rfl⟩⟩,rfl,rfl,rfl,rfl,_,Tryz.func62,by simp[results,Tryz.f62,Frame.at]⟩))
 ·have hd: decide ((j: Int) < (n: Int)) = false:=decide_eq_false (by omega)
  obtain rfl:j=n:=by omega
  refine LoneTo.goes (n:=60) ?_
  s_c stepG_seq
  s_reg
  s_op
  s_c stepG_region_end
  s_c stepG_seq
  s_cond false
  s_exit
  s_c stepG_seq
  s_reg
  s_op
  s_op
  s_op
  s_c stepG_region_end
  s_c stepG_ret'
  s_stop
  exact LoneTo.done (.inr (LoneTo.done ⟨.returned (.tuple #[.slice F j d,.bool true]),_,rfl,⟨F,j,d,true,rfl,hT,.inl ⟨hjl,rfl,rfl,hO,s,r,hC⟩⟩,rfl,rfl,rfl,rfl,_,Tryz.func62,by simp[results,Tryz.f62,Frame.at,go_sem]⟩))
theorem left_any(c cap:Nat)(zs:List Int)(hn:zs.length<=100)(w:World)(hC:ChanI w c cap zs false):Calls Tryz.prog 64 #[.chan (some c)] w fun e w'=>
  ∃(A:Option Addr) (k d:Nat),e= .returned (.slice A k d)/\Turn1 c w w'/\(zs.length=k/\OwnI w' w.heap.size (.slice A k d) zs):=by
 have hcl:=hC.lt;obtain⟨s,r,hC⟩:=hC;refine calls_of_loneTo fun cs=> ?_
 have e:Frame.enter Tryz.prog 64 #[.chan (some c)] .normal=(base 64).at ⟨#[.chan (some c),undef,undef,undef,undef,undef,undef,undef,undef,undef,undef,undef,undef,undef,undef],[]⟩ [.code (Tryz.f64.body.getD .skip)]:=by
  simp[Frame.enter,Frame.at,Tryz.func64,base,Tryz.f64]
 rw[e];refine LoneTo.goes (n:=60) ?_
 simp only[Tryz.f64,Option.getD_some]
 s_c stepG_seq
 s_reg
 s_op
 s_c stepG_region_end
 s_c stepG_seq
 s_reg
 s_op
 s_in
 refine goes_oper_k rfl rfl (by decide) (fun K hK=> ?_)
 have hclo:=fun ats ty=>run_close_open (P:=Tryz.prog) (w:=w) ats ty hC
 have hset:({w with heap:=w.heap.setIfInBounds c (.chan cap (zs.map (Value.int .i64)).toArray true s r false)}:World)=w.setChan c cap (zs.map (Value.int .i64)).toArray true s r false:=rfl;rw[hset]at hclo;have H0:ChanI (w.setChan c cap (zs.map (Value.int .i64)).toArray true s r false) c cap zs true:=chan_set w hcl _ _ _ _;have T0:Turn1 c w (w.setChan c cap (zs.map (Value.int .i64)).toArray true s r false):=(Turn1.refl c w).setChan;obtain⟨w0,hw0⟩: ∃w0,w0=w.setChan c cap (zs.map (Value.int .i64)).toArray true s r false:=⟨_,rfl⟩;rw[<-hw0]at hclo H0 T0;clear hset hw0 hC
 go_simp
 refine hK _ _ ⟨trivial,?_⟩
 clear hK K hclo;have hO0:OwnI w0 w.heap.size (.slice none 0 0) []:=⟨rfl,.inl ⟨rfl,rfl⟩⟩;obtain⟨B,hB⟩: ∃B,B=w.heap.size:=⟨_,rfl⟩;rw[<-hB]at hO0 hcl⊢
 s_c stepG_region_end
 s_c stepG_seq
 s_reg
 s_op
 s_c stepG_region_end
 s_c stepG_seq
 s_c stepG_seq
 s_reg
 s_op
 s_c stepG_region_end
 s_c stepG_block
 s_stop
 clear e;refine lone_loop (fun m a w'=> ∃(j d:Nat) (F:Option Addr) (t4 t5 t7 t8 t9 t10 t11 t12 t13:Value),j+m=zs.length/\a=⟨#[.chan (some c),undef,.slice none 0 0,.slice F j d,t4,t5,.chan (some c),t7,t8,t9,t10,t11,t12,t13,undef],[]⟩/\
   OwnI w' B (.slice F j d) (zs.take j)/\ChanI w' c cap (zs.drop j) true/\Turn1 c w w') ?_
  (⟨0,0,none,_,_,_,_,_,_,_,_,_,Nat.zero_add _,rfl,hO0,H0,T0⟩: ∃(j d:Nat) (F:Option Addr) (t4 t5 t7 t8 t9 t10 t11 t12 t13:Value),_)
 clear hO0 H0 T0;rintro m a w1 ⟨j,d,F,t4,t5,t7,t8,t9,t10,t11,t12,t13,hj,rfl,hO,⟨s,r,hC⟩,hT⟩;refine LoneTo.goes (n:=60) ?_
 s_c stepG_seq
 s_reg
 s_stop
 by_cases hz:j<zs.length
 ·obtain ⟨z,hzj⟩: ∃ z,zs[j]? = some z:=⟨_,List.getElem?_eq_getElem hz⟩
  have hdr:zs.drop j=z::zs.drop (j+1):=by
   rw[List.drop_eq_getElem_cons hz];congr 1
   simpa[List.getElem?_eq_getElem hz]using hzj
  rw[hdr]at hC;simp only[List.map_cons]at hC;refine LoneTo.step (step_lone_recv_buf true (c:=c) (z:=.int .i64 0) (stepG_comm (cases:=#[rcase c (.int .i64 0)]) (blocking:=true) (shape:=.recv true) (w':=w1) rfl rfl (by decide) (by simp[go_sem,execOp,rcase,Act.eval])) hC (by simp)) ?_
  have hcl1:c<w1.heap.size:=(Array.getElem?_eq_some_iff.1 hC).1
  have hC2:ChanI (w1.setChan c cap ((zs.drop (j+1)).map (Value.int .i64)).toArray true s (r+1) false) c cap (zs.drop (j+1)) true:=chan_set w1 hcl1 _ _ _ _;have hO2:=hO.chan (cap:=cap) (buf:=((zs.drop (j+1)).map (Value.int .i64)).toArray) (cl:=true) (s:=s) (r:=r+1) (tm:=false) hcl;have hT2:=hT.setChan (cap:=cap) (buf:=((zs.drop (j+1)).map (Value.int .i64)).toArray) (cl:=true) (s:=s) (r:=r+1) (tm:=false);have hx1:(Value.int .i64 z::List.map (Value.int .i64) (zs.drop (j+1))).toArray.extract 1 (Value.int .i64 z::List.map (Value.int .i64) (zs.drop (j+1))).toArray.size=((zs.drop (j+1)).map (Value.int .i64)).toArray:=by
   apply Array.toList_inj.mp
   simp
   exact List.take_of_length_le (by simp)
  rw[hx1,Frame.finish_at];simp only[got];obtain⟨w2,hw2⟩: ∃w2,w2=w1.setChan c cap ((zs.drop (j+1)).map (Value.int .i64)).toArray true s (r+1) false:=⟨_,rfl⟩;rw[<-hw2]at hC2 hO2 hT2⊢;clear hC hO hT hx1 hw2
  walk_nrm
  refine LoneTo.goes (n:=60) ?_
  s_op
  s_c stepG_region_end
  s_c stepG_seq
  s_cond true
  s_c stepG_skip
  s_c stepG_block
  s_c stepG_seq
  s_reg
  s_op
  s_op
  s_c stepG_region_end
  s_stop
  have hBs:B<=w2.heap.size:=by rw[hB];exact hT2.size
  obtain⟨R,hR⟩: ∃R:Act->World->Prop,R=fun a' w3=> ∃(F':Option Addr) (d':Nat) (t4 t5 t7 t8 t9 t10 t11 t12 t13:Value),a'=⟨#[.chan (some c),undef,.slice none 0 0,.slice F' (j+1) d',t4,t5,.chan (some c),t7,t8,t9,t10,t11,t12,t13,undef],[]⟩/\OwnI w3 B (.slice F' (j+1) d') (zs.take j++ [z])/\Below B w2 w3:=⟨_,rfl⟩
  have HB:=Lib.hid hB;have HR:=Lib.hid hR;clear hB hR;refine lone_code (R:=R) ?_ ?_
  ·go_wp2_with (at_builtin; refine wpList_push rfl _ _ rfl w2 B _ _ z j (by simp; omega) (by omega) hO2 hBs rfl rfl ?_; intro F' d' w3 hO3 hb3; have HO3:=Lib.hid hO3; have HI3:=Lib.hid hb3; clear hO3 hb3)
   rw[HR.out];exact⟨F',d',_,_,_,_,_,_,_,_,_,rfl,HO3.out,HI3.out⟩
  ·have hB:=HB.out
   rw[HR.out];clear HB HR;rintro a' w3 ⟨F',d',t4,t5,t7,t8,t9,t10,t11,t12,t13,rfl,hO3,hb3⟩;refine LoneTo.goes (n:=60) ?_
   s_c stepG_inBlock
   s_stop
   rw[<-take_one hzj]at hO3;rw[hB]at hb3;exact LoneTo.done (.inl ⟨m - 1,_,by omega,rfl,j+1,d',F',_,_,_,_,_,_,_,_,_,by omega,rfl,hO3,hC2.below (by rw[hB]at hcl;exact hb3) (by omega),hT2.more hb3⟩)
 ·have hz2: zs.drop j = []:=List.drop_eq_nil_of_le (by omega)
  rw[hz2]at hC;obtain rfl:j=zs.length:=by omega
  rw[List.take_length]at hO;refine LoneTo.step (step_lone_recv_shut true (c:=c) (z:=.int .i64 0) (cap:=cap) (s:=s) (r:=r) (tm:=false) (stepG_comm (cases:=#[rcase c (.int .i64 0)]) (blocking:=true) (shape:=.recv true) (w':=w1) rfl rfl (by decide) (by simp[go_sem,execOp,rcase,Act.eval])) hC) ?_
  rw[Frame.finish_at];simp only[got]
  walk_nrm
  refine LoneTo.goes (n:=60) ?_
  s_op
  s_c stepG_region_end
  s_c stepG_seq
  s_cond false
  s_exit
  s_c stepG_seq
  s_reg
  s_op
  s_op
  s_c stepG_region_end
  s_c stepG_ret'
  s_stop
  exact LoneTo.done (.inr (LoneTo.done ⟨.returned (.slice F zs.length d),_,rfl,⟨F,zs.length,d,rfl,hT,rfl,hO⟩,rfl,rfl,rfl,rfl,_,Tryz.func64,by simp[results,Tryz.f64,Frame.at,go_sem]⟩))
end Go.Proofs.YtlfekmbalgkmeaaGreatDoor
