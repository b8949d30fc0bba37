import Derived.Test.YtfahabphncmbfaaGreatDoorZQ39
set_option linter.all false
set_option maxRecDepth 100000
set_option maxHeartbeats 8000000
namespace Go.Proofs.YtfahabphncmbfaaGreatDoor
open Go Go.RowKit
open _root_.Array renaming getElem?_eq_some_iff→Zk
open Go.Lib renaming hid→Zf
open List renaming getElem?_eq_getElem→Zh,getElem?_eq_some_iff→Zs,getElem?_set_self→ZJ,getElem_mem→Zz,getElem_of_mem→ZA,getElem_take→Y4,length_append→Zq,length_filter_le→Yl,length_map→ZH,length_range→Yo,length_replicate→Yv,length_take→ZP,mem_append→Z2,mem_map→YG,replicate→Zj
open Nat renaming le_refl→Zm,le_trans→ZK,lt_trans→YI,zero_add→Yg,zero_le→Zu
open Option.some renaming inj→Zr
open Go renaming bodyPost_ret→Yal,cell_of_row→Yaf,frozen_of_row→Yaj,heap_alloc_new→Yak,heap_setCell_other→Yah,results_cell_tmp→Yam
open Go.Proofs.Tryz
section
variable {gO gL: Nat}{FL: Option Addr}{n' m' cO cL: Nat}{O L: List Int}
structure StTi(Bq:Nat)(wf:World)(gO gL:Nat)(FL:Option Addr)(n' m' cO cL:Nat)(O L:List Int)(w:World):Prop where
 tn:Turn2 gO gL wf w
 lt:wf.heap.size<w.heap.size
 c0:w.cell? ⟨wf.heap.size,0,none⟩=some (.slice (some ⟨gO,0,none⟩) n' cO)
 c1:w.cell? ⟨wf.heap.size,1,none⟩=some (.slice FL m' cL)
 rows:RowsC Bq gO FL n' m' cO cL O L w
 lO:gO<wf.heap.size
 lL:gL<wf.heap.size
theorem ZiX{w w':World}{base B:Nat}{v:Value}{zs:List Int}(h:OwnI w base v zs)(hv:∀b,v.ownBlock=some b->b<B)(hb:Below B w w'):OwnI w' base v zs:=by
 refine⟨h.1,?_⟩;rcases h.2 with hn|⟨g,cap,cur,rfl,hg,hgg,rest⟩
 ·exact .inl hn
 ·exact .inr ⟨g,cap,cur,rfl,hg,by rw[hb.block g (hv g rfl)];exact hgg,rest⟩
theorem StTi.later{Bq:Nat}{wf w w':World}(h:StTi Bq wf gO gL FL n' m' cO cL O L w)(hLb:∀b,(Value.slice FL m' cL).ownBlock=some b->b<wf.heap.size)(hb:Below (wf.heap.size+1) w w'):StTi Bq wf gO gL FL n' m' cO cL O L w':=
 ⟨⟨hb.os.trans h.tn.os,hb.tape.trans h.tn.tape,hb.output.trans h.tn.output,ZK h.tn.size hb.size,fun k hk h1 h2=>(hb.block k (by omega)).trans (h.tn.block k hk h1 h2)⟩,Nat.lt_of_lt_of_le h.lt hb.size,(hb.cell (show wf.heap.size<wf.heap.size+1 by omega)).trans h.c0,(hb.cell (show wf.heap.size<wf.heap.size+1 by omega)).trans h.c1,
  ⟨ZiX h.rows.rO (fun b e=>by simp[Value.ownBlock]at e;have:=h.lO;omega) hb,ZiX h.rows.rL (fun b e=>by have:=hLb b e;omega) hb,h.rows.ne⟩,h.lO,h.lL⟩
theorem StTi.setO{Bq:Nat}{wf w:World}(h:StTi Bq wf gO gL FL n' m' cO cL O L w){j:Nat}(hj:j<n')(z:Int):StTi Bq wf gO gL FL n' m' cO cL (O.set j z) L (w.setCell ⟨gO,j,none⟩ (.int .i64 z)):=by have hlo:=h.lO;exact⟨h.tn.setD j _,by simp[World.setCell];exact h.lt,(((Turn2.refl gO gO w).setD j (.int .i64 z)).cell (p:=⟨wf.heap.size,0,none⟩) h.lt (show wf.heap.size≠gO by omega) (show wf.heap.size≠gO by omega)).trans h.c0,(((Turn2.refl gO gO w).setD j (.int .i64 z)).cell (p:=⟨wf.heap.size,1,none⟩) h.lt (show wf.heap.size≠gO by omega) (show wf.heap.size≠gO by omega)).trans h.c1,h.rows.setO hj z,h.lO,h.lL⟩
theorem StTi.setL{Bq:Nat}{wf w:World}(h:StTi Bq wf gO gL (some ⟨gL,0,none⟩) n' m' cO cL O L w){j:Nat}(hj:j<m')(z:Int):StTi Bq wf gO gL (some ⟨gL,0,none⟩) n' m' cO cL O (L.set j z) (w.setCell ⟨gL,j,none⟩ (.int .i64 z)):=by
 have hlo:=h.lL;have hL:=h.rows.rL.len_eq;obtain⟨gL',e,hne⟩:=h.rows.ne (by omega);obtain rfl:gL=gL':=by simpa using e
 exact⟨h.tn.setV j _,by simp[World.setCell];exact h.lt,(((Turn2.refl gL gL w).setD j (.int .i64 z)).cell (p:=⟨wf.heap.size,0,none⟩) h.lt (show wf.heap.size≠gL by omega) (show wf.heap.size≠gL by omega)).trans h.c0,(((Turn2.refl gL gL w).setD j (.int .i64 z)).cell (p:=⟨wf.heap.size,1,none⟩) h.lt (show wf.heap.size≠gL by omega) (show wf.heap.size≠gL by omega)).trans h.c1,
  ⟨Zhs h.rows.rO (fun e=>hne (by simpa[Value.ownBlock]using e)) fun k hk=>Yah _ _ _ _ hk,Zc7 h.rows.rL (by omega) z,h.rows.ne⟩,h.lO,h.lL⟩
theorem Zd0{w:World}{B g j:Nat}{v:Value}{zs:List Int}(h:OwnI w B v zs)(hg:g<B)(u:Value):OwnI (w.setCell ⟨g,j,none⟩ u) B v zs:=
 Zhs h (fun e=>by have:=(h.blockLt g e).1;omega) fun k hk=>Yah _ _ _ _ hk
theorem ZiY(Bq:Nat)(wf:World)(hr:RowsC Bq gO FL n' m' cO cL O L wf)(hx:∀x∈O,x= -1\/(0<=x/\x<(L.length:Int)))(h1:∀x,x≠ -1->O.count x<=1)(hz:∀z∈L,0<=z/\z<=1000)(ln:n'<=400)(lm:m'<=400):
  Calls Tryz.prog 78 #[.agg #[.slice (some ⟨gO,0,none⟩) n' cO,.slice FL m' cL]] wf fun e w'=>∃A1 k1 c1 gL,e=.returned (.slice A1 k1 c1)/\OwnI w' (wf.heap.size+1) (.slice A1 k1 c1) (nums (Zb6 O L))/\(nums (Zb6 O L)).length=k1/\RowsC Bq gO FL n' m' cO cL (onT O L) (ZaC O L) w'/\(gL=gO\/FL=some ⟨gL,0,none⟩)/\Bq<=gL/\Turn2 gO gL wf w':=by
 have hO:=hr.rO.len_eq;have hm:=hr.rL.len_eq;have hk:=hr.isC ln lm;obtain⟨cur,hgg,hgO,hncO,_⟩:=hr.rO.blockC;have hgl:gO<wf.heap.size:=(Zk.1 hgg).1;obtain⟨gL,hgLw,hgLb,hFL,hwh⟩:∃gL,gL<wf.heap.size/\Bq<=gL/\(0<m'->FL=some ⟨gL,0,none⟩)/\(gL=gO\/FL=some ⟨gL,0,none⟩):=by
  rcases Nat.eq_zero_or_pos m' with h0|h0
  ·exact⟨gO,hgl,hgO,fun q=>by omega,.inl rfl⟩
  ·obtain ⟨gL,rfl,_⟩:=hr.ne h0
   obtain⟨cur2,h2,h3,_⟩:=hr.rL.blockC;exact⟨gL,(Zk.1 h2).1,h3,fun _=>rfl,.inr rfl⟩
 have hLb:∀b,(Value.slice FL m' cL).ownBlock=some b->b<wf.heap.size:=fun b e=>(hr.rL.blockLt b e).2;obtain⟨w0,hw0⟩:∃w0,w0=wf.alloc (.cells #[.slice (some ⟨gO,0,none⟩) n' cO,.slice FL m' cL] 37):=⟨_,rfl⟩;have B0:Hid (StTi Bq wf gO gL FL n' m' cO cL O L w0):=Zf (by
  have h1:=BxK.start hk;rw[<-hw0]at h1;exact⟨(Turn2.refl _ _ _).more h1.bel,h1.lt,h1.c0,h1.c1,hr.next h1.bel,hgl,hgLw⟩)
 have T0:Hid (TickC O L 0 O L []):=Zf (TickC.start O L);have HW:=Zf hw0;have HO:=Zf hO;have HM:=Zf hm;have HX:=Zf hx;have H1:=Zf h1;have HZ:=Zf hz;have HLB:=Zf hLb;have HFL:=Zf hFL;have HWH:=Zf hwh;have HGB:=Zf hgLb;have HND:Hid (∀k (x:Nat),O[k]?=some (x:Int)->(x:Int)∉O.take k):=Zf (fun k x hk hm=>by
  obtain⟨i,hi,he⟩:=ZA hm;rw[ZP]at hi;rw[Y4]at he;have h4:O[i]?=some (x:Int):=by rw[Zh (by omega)];exact congrArg some he
  have:=ZdF (h1 x (by omega)) hk h4;omega)
 clear hr hx h1 hz hO hm hk hgg hncO hLb hFL hgLb hwh hw0 hgO;have q0:=B0.out.c0;go_enter func78,ntmps78;go_wp2_with fail;rw[<-HW.out];clear HW;go_wp2;go_loopw [3,9] (fun v i wr=>∃(j k:Nat) (A2:Option Addr) (c2:Nat) (Oc Lc Dc:List Int),j<=n'/\k<=j/\i=.int .i64 j/\v=.slice A2 k c2/\Hid (Dc.length=k)/\Hid (TickC O L j Oc Lc Dc)/\Hid (OwnI wr (wf.heap.size+1) (.slice A2 k c2) Dc)/\Hid (StTi Bq wf gO gL FL n' m' cO cL Oc Lc wr)) (fun _ i _=>n' - (intOf i).toNat)
 case atStart=>exact⟨0,0,none,0,O,L,[],Zu _,Zm _,rfl,rfl,Zf rfl,T0,Zf ⟨rfl,.inl ⟨rfl,rfl⟩⟩,B0⟩
 case round=>
  clear B0 T0 q0;obtain⟨j,k,A2,c2,Oc,Lc,Dc,hj,hkj,rfl,rfl,HK,HT,HD,HB⟩:=hrel;have hlt0:wf.heap.size<wr.heap.size:=HB.out.lt;by_cases hlt:j<n'
  ·obtain ⟨x,hxO⟩:∃ x,O[j]?= some x:=⟨_,Zh (by rw [HO.out]; exact hlt)⟩
   have hxc:=HT.out.here hxO;obtain⟨b3,o3,x',e3,hb3,hx',d3⟩:=HB.out.rows.rO.ints.at_ (k:=j) (by have:=HB.out.rows.rO.len_eq;omega);obtain rfl:x=x':=by rw[hxc]at hx';exact Zr hx'
   obtain⟨h31,h32⟩:gO=b3/\0=o3:=by injection e3 with e3;injection e3 with e31 e32;exact⟨e31,e32⟩
   rw[<-h31,<-h32,Yg]at d3;have HXO:=Zf hxO;clear e3 hb3 hx' h31 h32 hxc;by_cases hx1:x= -1
   ·subst hx1
    have HT2:=Zf (HT.out.idle hxO);clear hxO;go_wp2;go_roundw
    case rel=>exact⟨j+1,k,A2,c2,Oc,Lc,Dc,by omega,by omega,by go_num,rfl,HK,HT2,HD,HB⟩
    case measure=>simp[intOf];omega
   ·have hx1a: (x == -1) = false:=beq_eq_false_iff_ne.mpr hx1
    obtain⟨h0x,hxm⟩:=(HX.out x (List.mem_of_getElem? hxO)).resolve_left hx1;obtain⟨q,rfl⟩:∃q:Nat,x=q:=⟨x.toNat,by omega⟩;have hqm:q<m':=by have:=HM.out;omega
    obtain rfl:=HFL.out (by omega);obtain⟨hlc,hT1,hT2⟩:=HT.out.node hxO (by rw[HM.out];exact hqm) (HND.out j q hxO);have HT1:=Zf hT1;have HT2:=Zf hT2;have hgOL:gO≠gL:=by
     obtain⟨g',e,hne⟩:=HB.out.rows.ne (by omega);obtain rfl:gL=g':=by simpa using e
     exact hne
    obtain⟨b4,o4,y,e4,hb4,hy,d4⟩:=HB.out.rows.rL.ints.at_ (k:=q) (by have:=HB.out.rows.rL.len_eq;omega);obtain⟨h41,h42⟩:gL=b4/\0=o4:=by injection e4 with e4;injection e4 with e41 e42;exact⟨e41,e42⟩
    rw[<-h41,<-h42,Yg]at d4;have hy2:Zaj L (q:Int)=y:=hlc.symm.trans (ZdJ hy);have hyb:0<=y/\y<=1000:=by rw[<-hy2];exact HZ.out _ (Zck (by rw[HM.out];exact hqm))
    obtain⟨hy0,hy1000⟩:=hyb;rw[hy2]at HT1 HT2;have fL:=HB.out.rows.rL.frozenC q;have q0:=HB.out.c0;have q1:=HB.out.c1;have hgLr:gL<wr.heap.size:=YI hgLw hlt0;have hgOr:gO<wr.heap.size:=YI hgl hlt0;clear e4 hb4 hy h41 h42 hlc hT1 hT2 hxO hx1 hy2 h0x hxm;by_cases hy1:y=1
    ·subst hy1
     have HS1:=Zf (HB.out.setL hqm 0);have HS2:=Zf (HS1.out.setO hlt (-1));have HT3:=Zf (HT1.out rfl);have HD2:=Zf (Zd0 (j:=j) (Zd0 (j:=q) HD.out (show gL<wf.heap.size+1 by omega) (.int .i64 0)) (show gO<wf.heap.size+1 by omega) (.int .i64 (-1)));have q0s:=HS1.out.c0;have q1s:=HS1.out.c1;have d4s:(wr.setCell ⟨gL,q,none⟩ (.int .i64 0)).cell? ⟨gL,q,none⟩=some (.int .i64 0):=by obtain⟨b5,o5,y5,e5,_,hy5,d5⟩:=HS1.out.rows.rL.ints.at_ (k:=q) (by have:=HS1.out.rows.rL.len_eq;omega);injection e5 with e5;injection e5 with e51 e52;rw[<-e51,<-e52,Yg]at d5;rw[ZJ (by have:=HB.out.rows.rL.len_eq;omega)]at hy5;rw[<-Zr hy5]at d5;exact d5
     have d3s:(wr.setCell ⟨gL,q,none⟩ (.int .i64 0)).cell? ⟨gO,j,none⟩=some (.int .i64 q):=by rw[((Turn2.refl gL gL wr).setD q (.int .i64 0)).cell (p:=⟨gO,j,none⟩) hgOr hgOL hgOL];exact d3
     have fOs:=HS1.out.rows.rO.frozenC j;have hsz2:wf.heap.size+1<=((wr.setCell ⟨gL,q,none⟩ (.int .i64 0)).setCell ⟨gO,j,none⟩ (.int .i64 (-1))).heap.size:=by simp[World.setCell];omega
     clear HT1 HT2 HS1 HB HT;go_wp2_with(at_builtin;refine ZaV rfl _ _ rfl ((wr.setCell ⟨gL,q,none⟩ (.int .i64 0)).setCell ⟨gO,j,none⟩ (.int .i64 (-1))) (wf.heap.size+1) _ Dc (q:Int) k HK.out (by omega) HD2.out hsz2 (by first|rfl|simp[Act.eval]) (by first|rfl|simp[Act.eval]) ?_;intro A3 c3 w3 HO3 HB3;(have HO3':=Zf HO3);(have HB3':=Zf HB3);clear HO3 HB3);have HS3:=Zf (HS2.out.later HLB.out HB3'.out);go_roundw
     case rel=>exact⟨j+1,k+1,A3,c3,_,_,_,by omega,by omega,by go_num,rfl,Zf (by rw[Zq,HK.out];rfl),HT3,HO3',HS3⟩
     case measure=>simp[intOf];omega
    ·obtain ⟨y1,hy1e⟩:∃ y1,y - 1 = y1:=⟨_,rfl⟩
     have hne:(y1==0)=false:=by rw[beq_eq_false_iff_ne];omega
     have hr1: -9223372036854775808<=y1:=by omega
     have hr2:y1<=9223372036854775807:=by omega
     have HS1:=Zf (HB.out.setL hqm y1);have HT3:=Zf (HT2.out hy1);have HD2:=Zf (Zd0 (j:=q) HD.out (show gL<wf.heap.size+1 by omega) (.int .i64 y1));have q0s:=HS1.out.c0;have q1s:=HS1.out.c1;have d4s:(wr.setCell ⟨gL,q,none⟩ (.int .i64 y1)).cell? ⟨gL,q,none⟩=some (.int .i64 y1):=by obtain⟨b5,o5,y5,e5,_,hy5,d5⟩:=HS1.out.rows.rL.ints.at_ (k:=q) (by have:=HS1.out.rows.rL.len_eq;omega);injection e5 with e5;injection e5 with e51 e52;rw[<-e51,<-e52,Yg]at d5;rw[ZJ (by have:=HB.out.rows.rL.len_eq;omega)]at hy5;rw[<-Zr hy5]at d5;exact d5
     rw[hy1e]at HT3;clear HT1 HT2 HB HT hy1;go_wp2;go_roundw
     case rel=>exact⟨j+1,k,A2,c2,_,_,_,by omega,by omega,by go_num,rfl,HK,HT3,HD2,HS1⟩
     case measure=>simp[intOf];omega
  ·obtain rfl: n' = j:=by omega
   obtain⟨e1,e2,e3⟩:=TickC.end_ (by rw[HO.out];exact HT.out:TickC O L O.length Oc Lc Dc) HX.out H1.out;have CS:=Zf (Zkb wr (wf.heap.size+1) A2 k c2 Dc HK.out (by omega) HD.out hlt0);have HE:=Zf (And.intro e1 (And.intro e2 e3));have HLN:Hid ((nums (Zb6 O L)).length=k):=Zf (by rw[<-e3,List.length_mergeSort];exact HK.out);clear e1 e2 e3;go_wp2_with fail;refine CS.out.mono ?_;rintro e w2 ⟨rfl,ho,hb⟩;have HS:=Zf (HB.out.later HLB.out hb);have HOO:=Zf ho;clear ho hb;go_wp2;go_ret;exact⟨A2,k,c2,gL,rfl,by rw[<-HE.out.2.2];exact HOO.out,HLN.out,by rw[<-HE.out.1,<-HE.out.2.1];exact HS.out.rows,HWH.out,HGB.out,HS.out.tn⟩
end
theorem Zmb(W:List Int)(E:List (Int×Int))(need:List Int)(cores:Int):ZdS W E need cores []=newE W E need cores:=by
 unfold ZdS newE;by_cases h:chkE W E=0
 ·rw [Zb (fun q => q h),Zc h]
  by_cases h2:Zb2 W need cores
  ·rw[Zb (fun q=>q ⟨h2,fun r hr=>by simp at hr⟩),Zc h2];rfl
  ·rw[Zc (fun q=>h2 q.1),Zb h2]
 ·rw[Zc h,Zb h]
def Zj8(W:List Int)(E:List (Int×Int))(need:List Int)(cores:Int)(w:World)(e:Ending)(w':World):Prop:=
 ∃A1 n1 c1 F1 m1 d1,e=.returned (.tuple #[.agg #[.slice A1 n1 c1,.slice F1 m1 d1],.int .i64 (newE W E need cores)])/\OwnC w' w.heap.size A1 n1 c1 F1 m1 d1 (newO W E need cores) (newL W E need cores)/\Zcz (.slice A1 n1 c1) (.slice F1 m1 d1)/\Below w.heap.size w w'
theorem Zp1{W:List Int}{E:List (Int×Int)}{need:List Int}{cores z:Int}{w w':World}(h:newE W E need cores=z)(hz:z≠0)(hb:Below w.heap.size w w'):Zj8 W E need cores w (.returned (.tuple #[.agg #[.slice none 0 0,.slice none 0 0],.int .i64 z])) w':=by refine⟨none,0,0,none,0,0,by rw[h],?_,fun b e=>by simp[Value.ownBlock]at e,hb⟩;unfold newO newL;rw[Zb (by rw[h];exact hz),Zb (by rw[h];exact hz)];exact Zsp _ _
section
variable {A: Option Addr}{n c: Nat}{F: Option Addr}{m d: Nat}{W: List Int}{E: List (Int × Int)}{N: Option Addr}{nn nc: Nat}{need: List Int}
theorem Zlk(cores:Int)(wf:World)(hg:IsG wf A n c F m d W E)(hn:need.length=nn)(hl:nn<=400)(hI:Ints wf wf.heap.size N need)(hN:N=none->nn=0/\nc=0):
  Calls Tryz.prog 75 #[.agg #[.slice A n c,.slice F m d],.slice N nn nc,.int .i64 cores] wf (Zj8 W E need cores wf):=by
 obtain⟨w0,hw0⟩:∃w0,w0=(wf.alloc (.cells #[.slice A n c,.slice F m d] 25)).alloc (.cells #[.slice none 0 0,.slice none 0 0] 37):=⟨_,rfl⟩;have HB0:Hid (Below wf.heap.size wf w0):=Zf (by rw[hw0];exact ZhP _ _);have hs:w0.heap.size=wf.heap.size+1+1:=by rw[hw0];simp
 have HR0:Hid (w0.heap[wf.heap.size+1]?=some (.cells #[.slice none 0 0,.slice none 0 0] 37 (0,0))):=Zf (by
  have h2:=Yak (wf.alloc (.cells #[.slice A n c,.slice F m d] 25)) (.cells #[.slice none 0 0,.slice none 0 0] 37);rw[<-hw0]at h2;simpa using h2)
 have HD0:Hid (w0.cell? ⟨wf.heap.size,0,none⟩=some (.slice A n c)/\w0.cell? ⟨wf.heap.size,1,none⟩=some (.slice F m d)):=Zf (by
  constructor<;>(rw[hw0,World.cell?_alloc_lt _ _ _ (by simp),World.cell?_alloc_at _ _ _ _ rfl];rfl)
 )
 have HS0:Hid (w0.heap.size=wf.heap.size+1+1):=Zf hs;have CK:=Zf (Zl9 (nc:=nc) (t:=[]) (T:=none) (tn:=0) (tc:=0) cores w0 (hg.below HB0.out) ⟨hn,rfl,hl,by decide,fun r hr=>by simp at hr,(hI.below HB0.out).more HB0.out.size,fun h=>absurd h (by simp),hN,fun _=>⟨rfl,rfl⟩⟩);rw[Zmb]at CK;have HG:=Zf hg;have HI:=Zf hI;have HN:=Zf hn;have HNN:=Zf hN;have HW:=Zf hw0;obtain⟨z,hz⟩:∃z,z=newE W E need cores:=⟨_,rfl⟩;rw[<-hz]at CK;have HZE:=Zf hz;have d0:=HD0.out.1;have d1:=HD0.out.2;clear hg hI hn hN hw0 hs hz;by_cases he:z=0
 ·subst he
  have HE:Hid (newE W E need cores=0):=Zf HZE.out.symm;have hf:=(newE_zero.mp HE.out).2;obtain⟨k,rfl⟩:∃k:Nat,cores=k:=⟨cores.toNat,by have:=hf.2.2.1;omega⟩;have hk1:1<=k:=by have:=hf.2.2.1;omega
  have hk8:k<=8:=by have:=hf.2.2.2;omega
  clear hf;go_enter func75,ntmps75;go_wp2_with fail;rw[<-HW.out];refine CK.out.mono ?_;rintro e w2 ⟨rfl,b1⟩;have HB2:=Zf (HB0.out.trans (b1.mono HB0.out.size));have HR2:Hid (w2.heap[wf.heap.size+1]?=_):=Zf ((b1.block _ (Zk.1 HR0.out).1).trans HR0.out);have hlo:wf.heap.size+1+1<=w2.heap.size:=(Zk.1 HR2.out).1;have HI2:=Zf ((HI.out.below HB2.out).more HB2.out.size);have CC:=Zf (Zd1 w2 N nn nc need HN.out (by omega) HI2.out HNN.out);clear b1 d0 d1 CK;go_wp2_with fail;refine CC.out.mono ?_;rintro e w3 ⟨A1,c1,he,ho,hb3⟩;rw[HN.out]at he ho;subst he;have HO3:=Zf ho;have HB3':=Zf hb3;clear ho hb3 CC;obtain⟨g,hg⟩:∃g,g=w3.heap.size:=⟨_,rfl⟩;obtain⟨w4,hw4⟩:∃w4,w4=w3.alloc (.cells #[.slice none 0 0,.slice A1 nn c1] 37):=⟨_,rfl⟩;have H4:Hid (StNw wf w2.heap.size g (.slice none 0 0) (.slice A1 nn c1) (Zj 0 (-1)) need w4):=Zf (by
   have hba:=Zaa (w:=w3) (.cells #[.slice none 0 0,.slice A1 nn c1] 37);have hna:=Yak w3 (.cells #[.slice none 0 0,.slice A1 nn c1] 37);rw[<-hw4]at hba hna;rw[<-hg]at hna;have hbb:Below wf.heap.size wf w3:=HB2.out.trans (HB3'.out.mono HB2.out.size);refine⟨hbb.trans (hba.mono hbb.size),hlo,?_,hna,by rw[hg];exact HB3'.out.size,⟨rfl,.inl ⟨rfl,rfl⟩⟩,Zac HO3.out hba,fun q e=>by simp[Value.ownBlock]at e⟩;rw[hba.block _ (by have:=HB3'.out.size;omega),HB3'.out.block _ (by omega)];exact HR2.out)
  have HG3:=Zf hg;have HW4:=Zf hw4;clear hg hw4 HR2 HO3 HB3' HI2;go_wp2;rw[<-HW4.out,<-HG3.out];clear HW4 HG3;go_loopw [22] (fun i wr=>∃(j:Nat) (A2:Option Addr) (c2:Nat),j<=k/\i=.int .i64 j/\Hid (StNw wf w2.heap.size g (.slice A2 j c2) (.slice A1 nn c1) (Zj j (-1)) need wr)) (fun i _=>k - (intOf i).toNat)
  case atStart=>exact⟨0,none,0,Zu _,rfl,H4⟩
  case round=>
   clear H4;obtain⟨j,A2,c2,hj,rfl,HB⟩:=hrel;have x0:=Yaf wr g 0 _ _ _ HB.out.b;have x1:=Yaf wr g 1 _ _ _ HB.out.b;simp at x0 x1;by_cases hlt:j<k
   ·have hsz: w2.heap.size <= wr.heap.size:=by have:=(Zk.1 HB.out.b).1; have:=HB.out.hg; omega
    have hon:wr.ownsRow w2.heap.size 3 1 (.slice A2 j c2) j ((Zj j (-1:Int)).map (Value.int .i64)):=by have h:=HB.out.on;unfold OwnI at h;rw[Yv]at h;exact h
    have HON:=Zf hon;clear hon;go_wp2_with(at_builtin;refine ZcV rfl _ _ 3 22 1 8 (.int .i64 0) underlying22 ZhU rfl (by omega) (by omega) rfl rfl wr w2.heap.size j _ ((Zj j (-1:Int)).map (Value.int .i64)) [.int .i64 (-1)] HON.out rfl (by simp[Value.oneCell']) (by omega) hsz (by first|rfl|simp[Act.eval]) (by first|rfl|simp[Act.eval]) ?_;intro F5 d5 w5 ho5 hr5 hat5;(have HO5:=Zf ho5);(have HR5:=Zf hr5);(have HA5:=Zf hat5);(have hb5:=hr5.heap HB.out.b (by decide));(have q0:=Yaf w5 g 0 _ _ _ hb5);(have q1:=Yaj w5 g 0 _ _ hb5);simp at q0;clear ho5 hr5 hat5 hb5);go_roundw
    case rel=>exact⟨j+1,F5,d5,by omega,by go_num,Zf (HB.out.push hsz (by unfold OwnI;rw[Yv,List.replicate_succ',List.map_append];exact HO5.out) HR5.out HA5.out)⟩
    case measure=>simp[intOf];omega
   ·obtain rfl: k = j:=by omega
    have r0:=Yaf wr (wf.heap.size+1) 0 _ _ _ HB.out.r;have r1:=Yaf wr (wf.heap.size+1) 1 _ _ _ HB.out.r;have z0:=Yaj wr (wf.heap.size+1) 0 _ _ HB.out.r;have z1:=Yaj wr (wf.heap.size+1) 1 _ _ HB.out.r;simp at r0 r1;have HF2:=Zf (Zeo HB.out.r (.slice A2 k c2) (.slice A1 nn c1));have HGT:Hid (Zj8 W E need k wf (.returned (.tuple #[.agg #[.slice A2 k c2,.slice A1 nn c1],.int .i64 0])) ((wr.setCell ⟨wf.heap.size+1,0,none⟩ (.slice A2 k c2)).setCell ⟨wf.heap.size+1,1,none⟩ (.slice A1 nn c1))):=Zf (by
     have hoth:=Zcd wr (wf.heap.size+1) (.slice A2 k c2) (.slice A1 nn c1);have o1:=Zbl HB.out.on HB.out.r (by decide) hoth;have o2:=Zbl HB.out.left HB.out.r (by decide) hoth;refine⟨A2,k,c2,A1,nn,c1,by rw[HE.out],?_,HB.out.ap,HB.out.bel.trans (ZcI (by omega) _ _)⟩;unfold newO newL;rw[Zc HE.out,Zc HE.out,Int.toNat_natCast];have hlo2:=HB.out.lo;exact⟨OwnI.down o1 (by omega),OwnI.down o2 (by omega),by simp,HN.out,by omega,hl⟩)
    go_wp2;refine Yal (v:=.tuple #[.agg #[.slice A2 k c2,.slice A1 nn c1],.int .i64 0]) ?_ rfl HGT.out;rw[Yam rfl];simp[asAddr,run_loadVar_row _ (wf.heap.size+1) _ _ _ _ _ HF2.out underlying37 rfl (by kernel_rfl),Result.andThen]
 ·have HE: Hid (newE W E need cores = z):=Zf HZE.out.symm
  have heb:(z !=0)=true:=bne_iff_ne.mpr he;have HZ:=Zf he;clear he;go_enter func75,ntmps75;go_wp2_with fail;rw[<-HW.out];refine CK.out.mono ?_;rintro e w2 ⟨rfl,b1⟩;have HB2:=Zf (HB0.out.trans (b1.mono HB0.out.size));have HR2:Hid (w2.heap[wf.heap.size+1]?=_):=Zf ((b1.block _ (Zk.1 HR0.out).1).trans HR0.out);have hsz:wf.heap.size+1+1<=w2.heap.size:=(Zk.1 HR2.out).1;clear b1 d0 d1;have r0:=Yaf w2 (wf.heap.size+1) 0 _ _ _ HR2.out;have r1:=Yaf w2 (wf.heap.size+1) 1 _ _ _ HR2.out;have z0:=Yaj w2 (wf.heap.size+1) 0 _ _ HR2.out;have z1:=Yaj w2 (wf.heap.size+1) 1 _ _ HR2.out;simp at r0 r1;have HE2:=Zf (Zeo HR2.out (.slice none 0 0) (.slice none 0 0));go_wp2;refine Yal (v:=.tuple #[.agg #[.slice none 0 0,.slice none 0 0],.int .i64 z]) ?_ rfl (Zp1 HE.out HZ.out (HB2.out.trans (ZcI (by omega) _ _)));rw[Yam rfl];simp[asAddr,run_loadVar_row _ (wf.heap.size+1) _ _ _ _ _ HE2.out underlying37 rfl (by kernel_rfl),Result.andThen]
end
section
variable {A: Option Addr}{n c: Nat}{F: Option Addr}{m d: Nat}{O L: List Int}{A': Option Addr}{n' c': Nat}{F': Option Addr}{m' d': Nat}{O' L': List Int}
end
section
variable {base m: Nat}{g g': Gng}{L L': List Int}{ad ad': GAd}
end
theorem Zgj(p:Int->Bool)(l:List Nat):(nums l).filter p=nums (l.filter fun y=>p (y:Int)):=by unfold nums;rw[List.filter_map];rfl
theorem Zdu{l:List Nat}{y:Nat}:(y:Int)∈nums l↔y∈l:=by unfold nums;rw[YG];exact⟨fun⟨z,hz,e⟩=>(Int.ofNat.inj e)▸hz,fun h=>⟨y,h,rfl⟩⟩
theorem Zgk(n:Nat)(E:List (Int×Int))(x:Int):Zd9 n E x=nums (Zku n E x):=by unfold Zd9 Zku nums;rw[List.filter_map];rfl
def rdyK(n:Nat)(E:List (Int×Int))(O L:List Int)(D:List Nat):List Nat:=(Zaw n E (onT O L) (ZaC O L)).filter fun y=>decide (y∉D)
section
variable {n m: Nat}{E: List (Int × Int)}{O L: List Int}{D: List Nat}{k: Nat}{g: Gng}
theorem Zp2(h:O.getD k 0≠ -1/\Zaj L (O.getD k 0)=1):(Zd9 n E (O.getD k 0)).filter (fun z=> !(!decide (z∈nums (rdyK n E O L D))))=nums (Zb0 n E O L D k):=by
 rw[Zgk,Zgj];unfold Zb0;rw[Zc h];congr 1;refine List.filter_congr fun y _=> ?_;rw[Bool.not_not];exact decide_eq_decide.mpr (by
  rw[Zdu];unfold rdyK;rw[List.mem_filter,decide_eq_true_iff])
theorem Zrs(h:¬(O.getD k 0≠ -1/\Zaj L (O.getD k 0)=1)):Zb0 n E O L D k= []:=Zb h
theorem Zp3:(nums (rdyK n E O L D)).filter (fun z=> !decide (z∈nums (Zb0 n E O L D k)))=nums (rdyK n E O L (D++Zb0 n E O L D k)):=by rw[Zgj];congr 1;unfold rdyK;rw[List.filter_filter];refine List.filter_congr fun y _=> ?_;rw[Bool.eq_iff_iff,Bool.and_eq_true,Bool.not_eq_true',decide_eq_false_iff_not,decide_eq_true_iff,decide_eq_true_iff,Zdu,Z2];exact⟨fun⟨a,b⟩ q=>q.elim b a,fun q=>⟨fun a=>q (.inr a),fun a=>q (.inl a)⟩⟩
theorem Zp4:rdyK n E O L []=Zaw n E (onT O L) (ZaC O L):=by unfold rdyK;exact List.filter_eq_self.mpr fun y _=>by simp
theorem Zrt(h:n<=64):(nums (rdyK n E O L D)).length<=64:=by unfold nums rdyK Zaw;rw[ZH];refine ZK (Yl _ _) (ZK (Yl _ _) ?_);rw[Yo];exact h
theorem Zp5(h:n<=64):(nums (Zb0 n E O L D k)).length<=64:=by
 unfold nums;rw[ZH];unfold Zb0;split
 ·refine ZK (Yl _ _) ?_
  unfold Zku;refine ZK (Yl _ _) ?_;rw[Yo];exact h
 ·exact Zu _
theorem Zn0(h:n<=64)(x:Int):(Zd9 n E x).length<=64:=by rw[Zgk];unfold nums Zku;rw[ZH];refine ZK (Yl _ _) ?_;rw[Yo];exact h
theorem Zfq(i:Nat):∀(l:List Nat) (g:Gng) (x:Nat),Zbg g i (l++ [x])=ZeZ (Zbg g i l) i (x:Int)
 | [],g,x=>rfl
 |y::r,g,x=>Zfq i r _ x
theorem ZiZ(g:Gng)(i:Nat)(l:List Nat){k x:Nat}(h:l[k]?=some x):Zbg g i (l.take (k+1))=ZeZ (Zbg g i (l.take k)) i (x:Int):=by rw[List.take_add_one,h];exact Zfq i _ g x
theorem Zn1(h:GOk n m E L g)(hF:Fits n E)(h0:∀c,c<m->(g.tk c).at_=0){k:Nat}(hk:k<m){i x:Nat}(hx:(Zb0 n E g.O L (ZaA n E L g k).2 k)[i]?=some x):
  ((Zbg (ZaA n E L g k).1 k ((Zb0 n E g.O L (ZaA n E L g k).2 k).take i)).R k).length=64/\
  Zcr 64 ((Zbg (ZaA n E L g k).1 k ((Zb0 n E g.O L (ZaA n E L g k).2 k).take i)).T k) ((Zbg (ZaA n E L g k).1 k ((Zb0 n E g.O L (ZaA n E L g k).2 k).take i)).B k)=0:=by
 obtain⟨l,hl⟩:∃l,l=Zb0 n E g.O L (ZaA n E L g k).2 k:=⟨_,rfl⟩;rw[<-hl]at hx⊢;have hil:i<l.length:=(Zs.1 hx).1;have hxe:l[i]=x:=(Zs.1 hx).2;have hnd:l.Nodup:=by
  rw[hl];unfold Zb0;split
  ·exact(List.nodup_range.filter _).filter _
  ·exact List.nodup_nil
 have hin:∀y∈l,y<n/\ZaD E (onT g.O L) (ZaC g.O L) y/\¬OverC E L (y:Int)/\y∉(ZaA n E L g k).2:=fun y hy=>by rw[hl]at hy;obtain⟨a,b,d,e⟩:=mem_mine.mp hy;exact⟨b.1,d,fun q=>q _ b.2 rfl (by rw[a.2];decide),e⟩
 have hxl:x∈l:=hxe▸Zz hil;have I:=TkInv.pushes (i:=k) hk h.n64 (Zgw h hF h0 k (by omega)) (fun j hj=>(h.dq j hj).top) (hnd.sublist (List.take_sublist i l)) (fun y hy=>hin y (List.mem_of_mem_take hy));have hno:x∉(ZaA n E L g k).2++l.take i:=fun q=>by
  rw[Z2]at q;rcases q with q|q
  ·exact(hin x hxl).2.2.2 q
  ·obtain ⟨j,hj,he⟩:=ZA q
   rw[ZP]at hj;rw[Y4]at he;have h2:=List.pairwise_iff_getElem.mp hnd j i (by omega) hil (by omega);exact h2 (by rw[he,hxe])
 have hr:=I.room h.n64 (hin x hxl).1 (hin x hxl).2.2.1 hno hk;have hT:0<=(Zbg (ZaA n E L g k).1 k (l.take i)).T k:=by rw[I.same.1];exact(h.dq k hk).top
 have hlo:=I.lo k hk;refine⟨I.rl k hk,?_⟩;unfold Zcr ChkQ;rw[Zb (fun q=>q ⟨by decide,by omega,by omega,by omega,by omega⟩),Zb (by omega)]
theorem Zp6(hc:CrewOk n E O L)(hk:k<O.length):O.getD k 0∈nums (Zb6 O L)↔O.getD k 0≠ -1/\Zaj L (O.getD k 0)=1:=by
 have hm:O.getD k 0∈O:=by rw[List.getD_eq_getElem?_getD,Zh hk];exact Zz hk
 obtain⟨x,hx⟩:∃x,x=O.getD k 0:=⟨_,rfl⟩;rw[<-hx]at hm⊢;constructor
 ·intro h
  unfold nums at h;obtain⟨y,hy,e⟩:=YG.mp h;have e2:x=(y:Int):=e.symm;subst e2;exact⟨by omega,(mem_doneT.mp hy).2.2⟩
 ·rintro ⟨h1,h2⟩
  have h3:=(hc.on x hm).resolve_left h1;obtain⟨y,rfl⟩:∃y:Nat,x=y:=⟨x.toNat,by omega⟩;rw[Zdu,mem_doneT];exact⟨by rw[hc.ln];omega,hm,h2⟩
theorem Zp7:(nums (Zb6 O L)).length<=L.length:=by unfold nums Zb6;rw[ZH];refine ZK (Yl _ _) ?_;rw[Yo];exact Zm _
end
theorem Zp8(s:Nat)(w:World)(hs:s<18446744073709551616)(hT:Tab64 w):
  Calls Tryz.prog 126 #[.int .u64 s] w (GotOwn (nums (Zby s)) w):=by
 have HS:=Zf hs;have HT:=Zf hT;have HLEN:=Zf (Zde s);clear hs hT;go_enter func126,ntmps126;go_wp2;go_loopw [0,3] (fun sv v wr=>∃(t k:Nat) (A:Option Addr) (c:Nat) (l:List Nat),sv=.int .u64 t/\t<18446744073709551616/\k<=64/\v=.slice A k c/\Hid (l.length=k)/\Hid (l++Zby t=Zby s)/\Hid (OwnI wr w.heap.size (.slice A k c) (nums l))/\Hid (Below w.heap.size w wr)) (fun sv _ _=>(intOf sv).toNat)
 case atStart=>exact⟨s,0,none,0,[],rfl,HS.out,by omega,rfl,Zf rfl,Zf rfl,Zf (ZhH _ _),Zf (Below.refl _ _)⟩
 case round=>
  obtain⟨t,k,A,c,l,rfl,ht,hk,rfl,HL,HE,HO,HB⟩:=hrel;by_cases h0:t=0
  ·subst h0
   have he:l=Zby s:=by have:=HE.out;rwa [Zg1,List.append_nil]at this
   have HE2:=Zf he;clear he;go_wp2;go_ret;obtain⟨A2,c2,h1,h2⟩:=HO.out.slice;exact⟨A2,c2,by rw[<-HE2.out,<-h1];rfl,by rw[<-HE2.out,<-h1];exact HO.out,HB.out⟩
  ·have HST:=Zf (Zg3 h0 ht)
   have hne:((t:Int) !=0)=true:=by simpa using h0
   have C:=Zf (Zhp t wr ht h0 (HT.out.via HB.out));have hsub:IntKind.u64.wrap ((t:Int) - 1)=((t - 1:Nat):Int):=by rw[IntKind.wrap_u64];omega
   have hand:=bits_and_u64_nat t (t - 1) ht (by omega);have hlt:=ZfV h0;obtain⟨z,hz⟩:∃z,z=t &&& (t - 1):=⟨_,rfl⟩;obtain⟨y,hy⟩:∃y,y=Lib.ctz 64 t:=⟨_,rfl⟩;rw[<-hz]at hand hlt HST;rw[<-hy]at C HST;have hk2:k<64:=by have h1:=HE.out;rw[HST.out]at h1;have h2:=congrArg List.length h1;rw[Zq,HL.out]at h2;simp only[List.length_cons]at h2;have:=HLEN.out;omega
   have hsz:=HB.out.size;clear hz hy h0
   go_wp2_with(first
    |(go_at_call 170;refine C.out.mono ?_;rintro e w' ⟨rfl,rfl⟩)
    |(at_builtin;refine ZaV rfl _ _ rfl wr w.heap.size _ (nums l) (y:Int) k (by rw[Zai];exact HL.out) (by omega) HO.out hsz rfl rfl ?_;intro A4 c4 w4 HO4 HB4;(have HO4':=Zf HO4);(have HB4':=Zf HB4);clear HO4 HB4))
   go_roundw
   case rel=>exact⟨z,k+1,A4,c4,l++ [y],rfl,by omega,by omega,rfl,Zf (by rw[Zq,HL.out];rfl),Zf (by rw[List.append_assoc];exact(by rw[<-HST.out];exact HE.out:l++(y::Zby z)=Zby s)),Zf (by rw[ZcH];exact HO4'.out),Zf (HB.out.trans HB4'.out)⟩
   case measure=>simp[intOf];omega
section
variable {A: Option Addr}{n c: Nat}{F: Option Addr}{m d: Nat}{W: List Int}{E: List (Int × Int)}
theorem Zn2(w:World)(x:Int)(hM:May W E)(hx:0<=x/\x<n)(h:IsG w A n c F m d W E):Calls Tryz.prog 95 #[.agg #[.slice A n c,.slice F m d],.int .i64 x] w (GotOwn (Zg0 W E x) w):=by
 have H:=Zf h;have ln:=h.ln;have CN:=Zf (fun W'=>ZjB x n W' (by omega))
 ·have C:=Zf (fun w' (h: IsG w' A n c F m d W E) => ZhC w' h hM)
  have HO:=Zf (show Zg0 W E x=Zd9 n E x by unfold Zg0;rw[Zc hM,h.hn]);have hF:Fits n E:=by rw[<-h.hn];exact hM.fits
  have hn64:n<=64:=by rw[<-h.hn];exact hM.nodes
  obtain⟨l,hl⟩:∃l,l=Zg0 W E x:=⟨_,rfl⟩;rw[<-hl]at HO⊢
  ·rw [Ze hx] at CN
   obtain⟨y,rfl⟩:=Int.eq_ofNat_of_zero_le hx.1;have hy:y<n:=by omega
   have HSB:=Zf (fun T h=>Zjr (T:=T) (y:=y) hn64 hF h);have CH:=Zf (fun s hs W'=>ZjA s y W' hs (by omega));have CW:=Zf (fun s j hs hj W'=>ZhG s j W' hs hj);have CR:=Zf (fun s W' hs hT=>Zp8 s W' hs hT);clear h hM hl hF hx;go_enter func95,ntmps95;go_wp2_with fail;refine(C.out _ (H.out.below (Zaa _))).mono ?_;rintro e w1 ⟨g,A',c',rfl,hR⟩;have HB:=Zf ((Zaa _).trans (hR.bel.mono (by simp)));obtain⟨ps,hV,hPS⟩:=hR.row;have HV:=Zf (hV.alloc (.cells #[.slice (some ⟨g,0,none⟩) n n,.slice A' n c'] 171));have HPS:=Zf hPS;have HB2:=Zf (HB.out.alloc HB.out.size (.cells #[.slice (some ⟨g,0,none⟩) n n,.slice A' n c'] 171));have HT:=Zf (H.out.tab.via HB2.out);clear hR hV hPS;go_wp2_with(go_at_call 148;refine(CN.out _).mono ?_;rintro e w' ⟨rfl,rfl⟩);obtain⟨w2,hw2⟩:∃w2,w2=w1.alloc (.cells #[.slice (some ⟨g,0,none⟩) n n,.slice A' n c'] 171):=⟨_,rfl⟩;rw[<-hw2]at HV HB2 HT⊢;clear hw2;go_loop [7,28] (fun tv i=>∃(j T:Nat),j<=n/\i=.int .i64 j/\tv=.int .u64 T/\T<18446744073709551616/\Hid (∀a,T.testBit a=(decide (a<j)&&decide (ed E y a)))) (fun _ i=>n - (intOf i).toNat)
   case atStart=>exact⟨0,0,Zu _,rfl,rfl,by decide,Zf (fun a=>by rw[Nat.zero_testBit];simp)⟩
   case round=>
    obtain⟨j,T,hj,rfl,rfl,hT64,HTB⟩:=hrel;by_cases hlt:j<n
    ·have hc:=HV.out.cell (Zd8 (ps:=ps) (j:=j) (by rw [HPS.out.len]; exact hlt))
     have C1:=Zf (fun W'=>CH.out (ps.getD j 0) (HPS.out.lt j hlt) W');have HBIT:=Zf (HPS.out.bit j hlt y);have C2:=Zf (fun W'=>CW.out T j hT64 (by omega) W');have hgl:=HV.out.lt;obtain⟨p,hp⟩:∃p,p=ps.getD j 0:=⟨_,rfl⟩;rw[<-hp]at hc C1 HBIT;have hor:T ||| 2^j<18446744073709551616:=Nat.or_lt_two_pow (n:=64) hT64 (Nat.pow_lt_pow_right (by decide) (by omega))
     clear hp;by_cases he:ed E y j
     ·rw [HBIT.out,Ze he] at C1
      have HST:=Zf (Zm1 HTB.out he);clear he
      go_wp2_with(first
       |(go_at_call 149;refine(C1.out _).mono ?_;rintro e w' ⟨rfl,rfl⟩)
       |(go_at_call 150;refine(C2.out _).mono ?_;rintro e w' ⟨rfl,rfl⟩))
      go_round
      case rel=>exact⟨j+1,T ||| 2^j,by omega,by go_num,rfl,hor,HST⟩
      case measure=>simp[intOf];omega
     ·rw [HBIT.out,Zd he] at C1
      have HST:=Zf (Zm2 HTB.out he);clear he;go_wp2_with(go_at_call 149;refine(C1.out _).mono ?_;rintro e w' ⟨rfl,rfl⟩);go_round
      case rel=>exact⟨j+1,T,by omega,by go_num,rfl,hT64,HST⟩
      case measure=>simp[intOf];omega
    ·obtain rfl: j = n:=by omega
     have HE:=Zf (HSB.out T HTB.out);have C3:=Zf (CR.out T w2 hT64 HT.out);go_wp2_with(go_at_call 126;refine C3.out.mono ?_;rintro e w3 ⟨A2,c2,rfl,hI,b⟩;have HI:=Zf hI;have HB3:=Zf b;clear hI b);go_ret;rw[HO.out,HE.out];exact⟨A2,c2,rfl,HI.out.down HB2.out.size,HB2.out.trans (HB3.out.mono HB2.out.size)⟩
end
end Go.Proofs.YtfahabphncmbfaaGreatDoor
