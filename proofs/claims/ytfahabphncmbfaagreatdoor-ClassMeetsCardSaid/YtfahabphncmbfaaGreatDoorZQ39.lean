import Derived.Test.YtfahabphncmbfaaGreatDoorZStealCopied
set_option linter.all false
set_option maxRecDepth 100000
set_option maxHeartbeats 16000000
namespace Go.Proofs.YtfahabphncmbfaaGreatDoor
open Go Go.RowKit
open _root_.Array renaming getElem?_eq_some_iff→Zk
open Go.Lib renaming hid→Zf
open List renaming eq_nil_of_length_eq_zero→Yb,ext_getElem?→YU,getD_eq_getElem?_getD→Zi,getElem?_eq_getElem→Zh,getElem?_eq_none→Zt,getElem?_map→ZO,length_set→ZU,map_cons→ZM,map_nil→Yd,map_toArray→ZW,mem_append→Z2,mem_cons→ZT,mem_cons_of_mem→Z1,mem_cons_self→Z3,mem_filter→YQ,mem_singleton→ZV
open Nat renaming le_trans→ZK,lt_of_lt_of_le→ZE,lt_or_ge→Zv,zero_add→Yg
open Option.some renaming inj→Zr
open Go.Proofs.Tryz renaming prog→Zg
open Go renaming execOp→Yae,heap_setCell_other→Yah
open Go.Proofs.Tryz
section
variable {base m: Nat}{g: Gng}{L: List Int}{ad: GAd}{picks: List Int}{AP: Option Addr}{nP cP: Nat}
end
structure RowsC(B gO:Nat)(FL:Option Addr)(n m cO cL:Nat)(O L:List Int)(w:World):Prop where
 rO:OwnI w B (.slice (some ⟨gO,0,none⟩) n cO) O
 rL:OwnI w B (.slice FL m cL) L
 ne:0<m->∃gL,FL=some ⟨gL,0,none⟩/\gO≠gL
theorem RowsC.next{B gO:Nat}{FL:Option Addr}{n m cO cL:Nat}{O L:List Int}{w w':World}(h:RowsC B gO FL n m cO cL O L w)(hb:Below w.heap.size w w'):RowsC B gO FL n m cO cL O L w':=⟨Zac h.rO hb,Zac h.rL hb,h.ne⟩
theorem StC.rows{hb g gO:Nat}{FL:Option Addr}{n m cO cL:Nat}{O L:List Int}{w:World}(h:StC hb g gO FL n m cO cL O L w):RowsC hb gO FL n m cO cL O L w:=⟨h.rO,h.rL,h.ne⟩
theorem RowsC.isC{B gO:Nat}{FL:Option Addr}{n m cO cL:Nat}{O L:List Int}{w:World}(h:RowsC B gO FL n m cO cL O L w)(l1:n<=400)(l2:m<=400):IsC w (some ⟨gO,0,none⟩) n cO FL m cL O L:=
 ZjU h.rO h.rL h.rO.len_eq h.rL.len_eq l1 l2
def ThCo(wf:World)(n m:Nat)(O L:List Int)(f:Nat->Value)(w:World):Prop:=∃ gO FL cO cL,Below wf.heap.size wf w/\StC wf.heap.size (wf.heap.size+1) gO FL n m cO cL O L w
theorem ThCo.below{wf w w':World}{n m:Nat}{O L:List Int}{f:Nat->Value}(h:ThCo wf n m O L f w)(hb:Below w.heap.size w w'):ThCo wf n m O L f w':=by obtain⟨gO,FL,cO,cL,h1,h2⟩:=h;exact⟨gO,FL,cO,cL,h1.trans (hb.mono h1.size),h2.next hb⟩
def Zru(sb hb:Nat)(A:Option Addr)(n c:Nat)(F:Option Addr)(m d:Nat)(O L:List Int):Nat->Value->World->Prop
 |0,v,w=>v=.pointer (some ⟨sb,0,none⟩)
 |1,v,w=>v=.slice A n c
 |2,v,w=>OwnI w hb v O
 |3,v,w=>v=.pointer (some ⟨sb,1,none⟩)
 |4,v,w=>v=.slice F m d
 |5,v,w=>OwnI w hb v L
 |6,v,w=>GBc hb n m O L v w
 |7,v,w=>True
 |_,_,_=>True
theorem Zj9(sb hb:Nat)(A:Option Addr)(n c:Nat)(F:Option Addr)(m d:Nat)(O L:List Int):∀kq v w w',Zru sb hb A n c F m d O L kq v w->Below w.heap.size w w'->Zru sb hb A n c F m d O L kq v w':=by
 intro kq v w w' h hb'
 match kq,h with
 |0,h=>exact h
 |1,h=>exact h
 |2,h=>exact Zac h hb'
 |3,h=>exact h
 |4,h=>exact h
 |5,h=>exact Zac h hb'
 |6,h=>exact GBc.below h hb'
 |7,h=>exact h
 |kq+8,h=>exact trivial
section
variable {A': Option Addr}{n' c': Nat}{F': Option Addr}{m' d': Nat}{O L: List Int}
theorem Zmc(wf:World)(hk:IsC wf A' n' c' F' m' d' O L)(hn0:0<n'):
    Calls Zg 146 #[.agg #[.slice A' n' c',.slice F' m' d']] wf fun e w'=>∃gO cO FL cL,e=.returned (.agg #[.slice (some ⟨gO,0,none⟩) n' cO,.slice FL m' cL])/\RowsC wf.heap.size gO FL n' m' cO cL O L w'/\Below wf.heap.size wf w':=by
  obtain⟨w0,hw0⟩:∃w0,w0=(wf.alloc (.cells #[.slice A' n' c',.slice F' m' d'] 37)).alloc (.cells #[.slice none 0 0,.slice none 0 0] 37):=⟨_,rfl⟩;have B0:Hid (BxK wf A' n' c' F' m' d' O L w0/\w0.heap[wf.heap.size+1]?=some (.cells #[.slice none 0 0,.slice none 0 0] 37 (0,0))):=Zf (by
    have h1:=BxK.start hk;obtain⟨v1,hv1⟩:∃v1,v1=wf.alloc (.cells #[.slice A' n' c',.slice F' m' d'] 37):=⟨_,rfl⟩;have s1:v1.heap.size=wf.heap.size+1:=by rw[hv1];simp
    rw[<-hv1]at h1 hw0;have h2:=heap_alloc_new v1 (.cells #[.slice none 0 0,.slice none 0 0] 37);rw[s1,<-hw0]at h2;exact⟨h1.next (by rw[hw0];exact Zaa _),h2⟩)
  have HW:=Zf hw0;clear hk hw0;go_enter func146,ntmps146;go_wp2_with fail;rw[<-HW.out];clear HW;refine ZeR 7 [3,4,5,6,7,8,9,1000] [] wf.heap.size 2 5 (by kernel_rfl) (by kernel_rfl) (by intro d hd;simp at hd⊢;omega) (fun x=>BxK wf A' n' c' F' m' d' O L x/\(Below wf.heap.size wf x/\x.heap[wf.heap.size+1]?=some (.cells #[.slice none 0 0,.slice none 0 0] 37 (0,0)))) (Zru wf.heap.size wf.heap.size A' n' c' F' m' d' O L) (ThCo wf n' m' O L) (fun u v _=>0<m'->Zcz u v) (by decide) (fun o ho=>by cases ho;exact⟨⟨2,.chain⟩,by simp,rfl,by rfl⟩) (fun u v w w' h hb=>h)
    (fun x y h hb=>⟨h.1.next hb,h.2.1.trans (hb.mono h.2.1.size),by rw[hb.block _ (Zk.1 h.2.2).1];exact h.2.2⟩) (Zj9 wf.heap.size wf.heap.size A' n' c' F' m' d' O L) (⟨B0.out.1.next (Below.refl _ _).drew,B0.out.1.bel.drew,by exact B0.out.2⟩) ?hstep ?hside ?hstore ?htheta ?hthetab B0.out.1.bel.size ?hend
  case hstep=>
    intro kq o hkp hkS ho a w hI hA hd hps K hK;obtain⟨ρ,hρ⟩:∃ρ,a.eval=ρ:=⟨_,rfl⟩;rw[hρ]at hA hd hps hK
    match kq,hkp,hkS,ho with
    | 0, _, _, ho =>
      cases ho;have hK:=fun v w' h b=>hK v w' h b (fun e=>Za e)
      exact Zab hK hρ (.pointer (some ⟨wf.heap.size,0,none⟩)) (by have h:=hA.tmp 1 (by decide);simp[Yae,h,go_sem]) rfl
    | 1, _, _, ho =>
      cases ho;have f0:(ρ (.tmp 3))=.pointer (some ⟨wf.heap.size,0,none⟩):=hd ⟨0,.data⟩ (by simp) (by rfl);have hK:=fun v w' h b=>hK v w' h b (fun e=>Za e)
      exact Zab hK hρ _ (by have h0:=hI.1.c0;simp[Yae,f0,h0,go_sem]) rfl
    | 2, _, _, ho =>
      cases ho;have f1:(ρ (.tmp 4))=.slice A' n' c':=hd ⟨1,.data⟩ (by simp) (by rfl);have hK:=fun v w' h b=>hK v w' h b (fun e=>Za e)
      exact ZaU hK hρ 45 _ _ #[.slice A' n' c'] rfl (by simp only[ZW,ZM,Yd,f1]) (Za1 func45 (by kernel_rfl) rfl) ((Zd1 _ _ _ _ O (hI.1.k).hn (by have:=(hI.1.k).ln;omega) (hI.1.k).on (hI.1.k).hA).mono fun e w' ⟨A1,c1,he,ho,hb⟩=>⟨_,he,ho.down hI.2.1.size,hb⟩)
    | 3, _, _, ho =>
      cases ho;have hK:=fun v w' h b=>hK v w' h b (fun e=>Za e)
      exact Zab hK hρ (.pointer (some ⟨wf.heap.size,1,none⟩)) (by have h:=hA.tmp 1 (by decide);simp[Yae,h,go_sem]) rfl
    | 4, _, _, ho =>
      cases ho;have f3:(ρ (.tmp 6))=.pointer (some ⟨wf.heap.size,1,none⟩):=hd ⟨3,.data⟩ (by simp) (by rfl);have hK:=fun v w' h b=>hK v w' h b (fun e=>Za e)
      exact Zab hK hρ _ (by have h0:=hI.1.c1;simp[Yae,f3,h0,go_sem]) rfl
    | 5, _, _, ho =>
      cases ho;have f4:(ρ (.tmp 7))=.slice F' m' d':=hd ⟨4,.data⟩ (by simp) (by rfl);have f2:=hd ⟨2,.chain⟩ (by simp) (by rfl)
      exact ZaU (k:=5) (Φ:=fun _ v w'=>OwnI w' wf.heap.size v L/\(0<m'->Zcz (ρ (.tmp 5)) v)) (fun v w' h b=>hK v w' h.1 b (fun _=>h.2)) hρ 45 _ _ #[.slice F' m' d'] rfl (by simp only[ZW,ZM,Yd,f4]) (Za1 func45 (by kernel_rfl) rfl) ((Zd1 _ _ _ _ L (hI.1.k).hm (by have:=(hI.1.k).lm;omega) (hI.1.k).left (hI.1.k).hF).mono fun e w' ⟨A1,c1,he,ho,hb⟩=>⟨_,he,⟨ho.down hI.2.1.size,fun _ b e1 e2=>by have h1:=(OwnI.blockLt f2 b e1).2;have h2:=(ho.blockLt b e2).1;omega⟩,hb⟩)
    | 6, _, _, ho =>
      cases ho;have f2:OwnI w wf.heap.size (ρ (.tmp 5)) O:=hd ⟨2,.data⟩ (by simp) (by rfl);have f5:OwnI w wf.heap.size (ρ (.tmp 8)) L:=hd ⟨5,.data⟩ (by simp) (by rfl);have hK:=fun v w' h b=>hK v w' h b (fun e=>Za e);have hap:=hps ⟨5,.data⟩ (by simp) (by rfl) rfl
      obtain⟨A1,a1,g2,_⟩:=OwnI.slice f2;obtain⟨A2,a2,g5,_⟩:=OwnI.slice f5;rw[(hI.1.k).hn]at g2;rw[(hI.1.k).hm]at g5;exact Zab hK hρ (.agg #[.slice A1 n' a1,.slice A2 m' a2]) (by simp[Yae,g2,g5,go_sem]) ⟨A1,a1,A2,a2,rfl,g2▸f2,g5▸f5,fun hm=>g2▸g5▸hap hm⟩
    |7,hkp,_,_=>exact absurd rfl hkp
    |kq+8,_,_,ho=>simp at ho
  case hside=>intro kq o hkS ho ρ w hbw hA hd;exact absurd hkS (by simp)
  case hstore=>
    intro o ho a w hI hA hF hps K hK;cases ho;refine stC (slot:=2) rfl rfl rfl (show GNc wf.heap.size _ w from⟨wf.heap.size+1,hA.tmp 2 (by decide),by omega,hI.2.2⟩) (hF 6 (by decide) (by decide) (by decide)) hn0 hI.2.1 (fun w' h1 h2 h3=>hK w' ?_ ?_ (fun k hk=>absurd hk (by simp)))
    · obtain⟨g,gO,FL,cO,cL,e,r⟩:=h1;replace e:=(hA.tmp 2 (by decide)).symm.trans e;exact⟨gO,FL,cO,cL,by have e2:wf.heap.size+1=g:=(by injection e with e;injection e with e;injection e with e);subst e2;exact⟨r.1,r.2.2⟩⟩
    · exact h2
  case htheta=>intro f g w h hT;exact hT
  case hthetab=>intro f w w' hT hb;exact ThCo.below hT hb
  case hend=>intro vals w1 hT hF;obtain⟨gO,FL,cO,cL,hb1,hst⟩:=hT;simp only[ZaW,Zba,List.contains_cons,List.contains_nil,Nat.reduceBEq,Bool.or_false,Bool.false_or,Bool.or_true,Bool.true_or,cond_true,cond_false,Yg,Nat.reduceAdd];have x0:=hst.x0;have x1:=hst.x1;have HS:=Zf hst;have HB:=Zf hb1;clear hF hst hb1 B0;go_wp2;refine bodyPost_ret (v:=.agg #[.slice (some ⟨gO,0,none⟩) n' cO,.slice FL m' cL]) ?_ rfl ⟨gO,cO,FL,cL,rfl,HS.out.rows,HB.out⟩;exact results_cell_row rfl _ _ (wf.heap.size+1) _ _ _ _ rfl HS.out.x underlying37 rfl (by kernel_rfl)
end
structure Turn2(gD gV:Nat)(w w':World):Prop where
 os:w'.os=w.os
 tape:w'.tape=w.tape
 output:w'.output=w.output
 size:w.heap.size<=w'.heap.size
 block:∀k,k<w.heap.size->k≠gD->k≠gV->w'.heap[k]?=w.heap[k]?
section
variable {gD gV: Nat}{w w1 w2: World}
theorem Turn2.refl(gD gV:Nat)(w:World):Turn2 gD gV w w:=⟨rfl,rfl,rfl,Nat.le_refl _,fun _ _ _ _=>rfl⟩
theorem Turn2.trans(h:Turn2 gD gV w w1)(k:Turn2 gD gV w1 w2):Turn2 gD gV w w2:=
 ⟨k.os.trans h.os,k.tape.trans h.tape,k.output.trans h.output,ZK h.size k.size,fun i hi h1 h2=>(k.block i (ZE hi h.size) h1 h2).trans (h.block i hi h1 h2)⟩
theorem Turn2.more(h:Turn2 gD gV w w1)(k:Below w1.heap.size w1 w2):Turn2 gD gV w w2:=
 h.trans ⟨k.os,k.tape,k.output,k.size,fun i hi _ _=>k.block i hi⟩
theorem Turn2.setD(h:Turn2 gD gV w w1)(j:Nat)(v:Value):Turn2 gD gV w (w1.setCell ⟨gD,j,none⟩ v):=
 h.trans ⟨rfl,rfl,rfl,by simp[World.setCell],fun i hi h1 _=>Yah _ _ _ _ h1⟩
theorem Turn2.setV(h:Turn2 gD gV w w1)(j:Nat)(v:Value):Turn2 gD gV w (w1.setCell ⟨gV,j,none⟩ v):=
 h.trans ⟨rfl,rfl,rfl,by simp[World.setCell],fun i hi _ h2=>Yah _ _ _ _ h2⟩
theorem Turn2.drew(h:Turn2 gD gV w w1):Turn2 gD gV w w1.drew:=⟨h.os,h.tape,h.output,h.size,h.block⟩
theorem Turn2.below{B:Nat}(h:Turn2 gD gV w w1)(hB:B<=w.heap.size)(hD:B<=gD)(hV:B<=gV):Below B w w1:=
 ⟨h.os,h.tape,h.output,h.size,fun k hk=>h.block k (by omega) (by omega) (by omega)⟩
theorem Turn2.cell(h:Turn2 gD gV w w1){p:Addr}(hp:p.block<w.heap.size)(h1:p.block≠gD)(h2:p.block≠gV):w1.cell? p=w.cell? p:=World.cell?_of_block (w:=w) (h.block p.block hp h1 h2)
end
def IntsN(w:World)(g:Nat)(A:Option Addr)(zs:List Int):Prop:=
 0<zs.length->∃b off,A=some ⟨b,off,none⟩/\b<w.heap.size/\b≠g/\∀k,k<zs.length->w.cell? ⟨b,off+k,none⟩=some (.int .i64 (zs.getD k 0))
theorem IntsN.of{w:World}{B g:Nat}{A:Option Addr}{n c:Nat}{zs:List Int}(h:OwnI w B (.slice A n c) zs)(hg:g<B):IntsN w g A zs:=fun hp=>by
 obtain⟨b,off,e,hb,hc⟩:=h.ints hp;refine⟨b,off,e,hb,?_,hc⟩;subst e;rcases h.2 with⟨e,_⟩|⟨g',cap,cur,e,hg',_⟩
 ·cases e
 ·injection e with e1 e2 e3
  injection e1 with e1;injection e1 with e1 e4;omega
theorem IntsN.turn{w w1:World}{g:Nat}{A:Option Addr}{zs:List Int}(h:IntsN w g A zs)(ht:Turn2 g g w w1):IntsN w1 g A zs:=fun hp=>by obtain⟨b,off,e,hb,hn,hc⟩:=h hp;exact⟨b,off,e,ZE hb ht.size,hn,fun k hk=>(ht.cell (p:=⟨b,off+k,none⟩) hb hn hn).trans (hc k hk)⟩
theorem IntsN.head{w:World}{g:Nat}{A:Option Addr}{z:Int}{zs:List Int}(h:IntsN w g A (z::zs)):∃b off,A=some ⟨b,off,none⟩/\b<w.heap.size/\b≠g/\w.cell? ⟨b,off,none⟩=some (.int .i64 z):=by obtain⟨b,off,e,hb,hn,hc⟩:=h (by simp);exact⟨b,off,e,hb,hn,by have:=hc 0 (by simp);simpa using this⟩
def Zn3(A:Option Addr)(c:Nat):Option Addr:=if c=1 then A else A.map (·.add 1)
theorem IntsN.tail{w:World}{g c:Nat}{A:Option Addr}{z:Int}{zs:List Int}(h:IntsN w g A (z::zs))(hc:zs.length+1<=c):IntsN w g (Zn3 A c) zs:=fun hp=>by
 obtain⟨b,off,e,hb,hn,hcell⟩:=h (by simp);refine⟨b,off+1,?_,hb,hn,fun k hk=> ?_⟩
 ·unfold Zn3
  rw[Zb (by omega),e];show some ((⟨b,off,none⟩:Addr).add 1)=_;rw[Za3]
 ·have:=hcell (k + 1) (by simpa using hk)
  rw[show off+1+k=off+(k+1) by omega,this];rfl
theorem Zp9(b off k c:Nat)(hk:1<=k)(W:World):(Instr.sliceAt 22 (.slice (some ⟨b,off,none⟩) k c) (some (.int .i64 1)) none none).run Zg W=.ok (.slice (Zn3 (some ⟨b,off,none⟩) c) (k - 1) (c - 1)) W:=by
 have hu:Zg.underlying 22=some (.slice (Zg.elem 22)):=by kernel_rfl
 rw[run_sliceAt_slice (h:=hu),run_slice_l (ht:=hu) (h0:=by omega) (h1:=by omega)];simp[go_sem,sliced,Zn3]
theorem Zka{n:Nat}{E:List (Int×Int)}{O L:List Int}{i x:Nat}{r:List Nat}(hi:i<O.length)(h0:O.getD i 0= -1)(h:Zaw n E O L=x::r):Zaw n E (O.set i (x:Int)) L=r:=by
 have hmem:∀y:Nat,(y:Int)∈O.set i (x:Int)↔y=x\/(y:Int)∈O:=by
  intro y;constructor
  ·intro hy
   rcases ZbI hy with q|q
   ·exact .inr q
   ·exact .inl (by omega)
  ·rintro (rfl | q)
   ·exact List.mem_set hi _
   ·obtain ⟨j,hj,he⟩:=List.getElem_of_mem q
    have hji:i≠j:=fun e=>by subst e;rw[Zi,Zh hj]at h0;have h1:O[i]= -1:=h0;omega
    have:(O.set i (x:Int))[j]?=some (y:Int):=by rw[List.getElem?_set_ne hji,Zh hj,he]
    exact List.mem_of_getElem? this
 have hnd:(Zaw n E O L).Nodup:=(List.nodup_range).filter _;have hR:Zaw n E (O.set i (x:Int)) L=(Zaw n E O L).filter fun y=>decide (y≠x):=by
  unfold Zaw;rw[List.filter_filter];refine List.filter_congr fun y _=> ?_;rw[Bool.eq_iff_iff];simp only[Bool.and_eq_true,decide_eq_true_iff];unfold ZaD;rw[hmem y];constructor
  ·rintro ⟨h1,h2,h3⟩
   exact⟨fun e=>h2 (.inl e),h1,fun q=>h2 (.inr q),h3⟩
  ·rintro ⟨h1,h2,h3,h4⟩
   exact⟨h2,fun q=>q.elim h1 h3,h4⟩
 rw[hR,h];rw[h,List.nodup_cons]at hnd;rw[List.filter_cons_of_neg (by simp),List.filter_eq_self];intro y hy;exact Ze (fun e=>hnd.1 (e▸hy))
section
variable {A: Option Addr}{n c: Nat}{F: Option Addr}{m d: Nat}{W: List Int}{E: List (Int × Int)}{gO: Nat}{FL: Option Addr}{n' m' cO cL: Nat}{O L: List Int}
structure StFi(wb wf:World)(A:Option Addr)(n c:Nat)(F:Option Addr)(m d:Nat)(W:List Int)(E:List (Int×Int))(gO:Nat)(FL:Option Addr)(n' m' cO cL:Nat)(O L:List Int)(w:World):Prop where
 tn:Turn2 gO gO wf w
 lt:wf.heap.size+1<w.heap.size
 d0:w.cell? ⟨wf.heap.size,0,none⟩=some (.slice A n c)
 d1:w.cell? ⟨wf.heap.size,1,none⟩=some (.slice F m d)
 c0:w.cell? ⟨wf.heap.size+1,0,none⟩=some (.slice (some ⟨gO,0,none⟩) n' cO)
 c1:w.cell? ⟨wf.heap.size+1,1,none⟩=some (.slice FL m' cL)
 rows:RowsC wb.heap.size gO FL n' m' cO cL O L w
 g:IsG w A n c F m d W E
theorem RowsC.setO{B:Nat}{w:World}(h:RowsC B gO FL n' m' cO cL O L w){j:Nat}(hj:j<n')(z:Int):RowsC B gO FL n' m' cO cL (O.set j z) L (w.setCell ⟨gO,j,none⟩ (.int .i64 z)):=by
 have hO:=h.rO.len_eq;refine⟨Zc7 h.rO (by omega) z,?_,h.ne⟩;rcases Nat.eq_zero_or_pos m' with h0|h0
 ·have hL:=h.rL.len_eq
  subst h0;obtain rfl:L= []:=Yb hL;refine⟨h.rL.1,?_⟩;rcases h.rL.2 with q|⟨g',cap,cur,e,hg,hgg,hnc,hcm,hcs,ht⟩
  ·exact .inl q
  ·by_cases hgo: g' = gO
   ·subst hgo
    exact .inr ⟨g',cap,cur.setIfInBounds j (.int .i64 z),e,hg,heap_setCell_same w g' j _ _ _ hgg,hnc,hcm,by rw[Array.size_setIfInBounds];exact hcs,by simp⟩
   ·exact .inr ⟨g',cap,cur,e,hg,by rw[Yah _ _ _ _ hgo];exact hgg,hnc,hcm,hcs,ht⟩
 ·obtain ⟨gL,rfl,hne⟩:=h.ne h0
  exact Zhs h.rL (fun e=>hne (by simpa[Value.ownBlock]using e.symm)) fun k hk=>Yah _ _ _ _ hk
theorem StFi.next{wb wf w w':World}(h:StFi wb wf A n c F m d W E gO FL n' m' cO cL O L w)(hb:Below w.heap.size w w'):StFi wb wf A n c F m d W E gO FL n' m' cO cL O L w':=
 ⟨h.tn.more hb,ZE h.lt hb.size,(hb.cell (show wf.heap.size<_ by have:=h.lt;omega)).trans h.d0,(hb.cell (show wf.heap.size<_ by have:=h.lt;omega)).trans h.d1,(hb.cell (show wf.heap.size+1<_ from h.lt)).trans h.c0,(hb.cell (show wf.heap.size+1<_ from h.lt)).trans h.c1,h.rows.next hb,h.g.below hb⟩
theorem StFi.set{wb wf w:World}(h:StFi wb wf A n c F m d W E gO FL n' m' cO cL O L w)(hgb:IsG wb A n c F m d W E)(hbel:Below wb.heap.size wb wf)(hgl:gO<wf.heap.size)(hgO:wb.heap.size<=gO){j:Nat}(hj:j<n')(z:Int):
  StFi wb wf A n c F m d W E gO FL n' m' cO cL (O.set j z) L (w.setCell ⟨gO,j,none⟩ (.int .i64 z)):=by
 have ht:Turn2 gO gO w (w.setCell ⟨gO,j,none⟩ (.int .i64 z)):=(Turn2.refl gO gO w).setD j _;have hlt:=h.lt;have hT:=h.tn.trans ht;refine⟨hT,by simp[World.setCell];exact hlt,(ht.cell (show wf.heap.size<_ by omega) (show wf.heap.size≠_ by omega) (show wf.heap.size≠_ by omega)).trans h.d0,(ht.cell (show wf.heap.size<_ by omega) (show wf.heap.size≠_ by omega) (show wf.heap.size≠_ by omega)).trans h.d1,(ht.cell (show wf.heap.size+1<_ by omega) (show wf.heap.size+1≠_ by omega) (show wf.heap.size+1≠_ by omega)).trans h.c0,(ht.cell (show wf.heap.size+1<_ by omega) (show wf.heap.size+1≠_ by omega) (show wf.heap.size+1≠_ by omega)).trans h.c1,h.rows.setO hj z,?_⟩;exact hgb.below (hbel.trans (hT.below hbel.size hgO hgO))
theorem StFi.drew{wb wf w:World}(h:StFi wb wf A n c F m d W E gO FL n' m' cO cL O L w):StFi wb wf A n c F m d W E gO FL n' m' cO cL O L w.drew:=h.next (Below.refl _ _).drew
theorem Zn4(wb wf:World)(hg:IsG wb A n c F m d W E)(hbel:Below wb.heap.size wb wf)(hr:RowsC wb.heap.size gO FL n' m' cO cL O L wf)(hF:Fits W.length E)(h64:W.length<=64)(hl:L.length=W.length)(ln:n'<=400):
    Calls Zg 77 #[.agg #[.slice A n c,.slice F m d],.agg #[.slice (some ⟨gO,0,none⟩) n' cO,.slice FL m' cL]] wf fun e w'=>e=.returned (.tuple #[])/\RowsC wb.heap.size gO FL n' m' cO cL (ZcJ m' E L O) L w'/\Turn2 gO gO wf w':=by
  have hO:=hr.rO.len_eq;have hm:=hr.rL.len_eq;have hk:=hr.isC ln (by omega);have hgf:=hg.below hbel;obtain⟨cur,hgg,hgO,hncO,_⟩:=hr.rO.blockC;have hgl:gO<wf.heap.size:=(Zk.1 hgg).1;obtain⟨w0,hw0⟩:∃w0,w0=(wf.alloc (.cells #[.slice A n c,.slice F m d] 25)).alloc (.cells #[.slice (some ⟨gO,0,none⟩) n' cO,.slice FL m' cL] 37):=⟨_,rfl⟩;have B0:Hid (StFi wb wf A n c F m d W E gO FL n' m' cO cL O L w0):=Zf (by
    have h1:=BxDC.start hgf hk;rw[<-hw0]at h1;exact⟨(Turn2.refl _ _ _).more h1.bel,h1.lt,h1.d0,h1.d1,h1.c0,h1.c1,hr.next h1.bel,h1.g⟩)
  have HW:=Zf hw0;have HSET:=Zf (fun(O1:List Int) (w:World) (h:StFi wb wf A n c F m d W E gO FL n' m' cO cL O1 L w) (j:Nat) (hj:j<n') (z:Int)=>h.set hg hbel hgl hgO hj z);have CR:=Zf (fun W' (h1:IsG W' A n c F m d W E) (h2:IsC W' (some ⟨gO,0,none⟩) n' cO FL m' cL O L)=>ZeY W' h1 h2 hF h64 hl);have HO:=Zf hO;have HGL:=Zf hgl;have hm64:m'<=64:=by omega
  have TL:=fun b off k c hk W'=>Zp9 b off k c hk W';clear hg hbel hr hF h64 hl hO hm hk hgf hgg hncO hgl hw0;have p0:=B0.out.d0;have p1:=B0.out.d1;have q0:=B0.out.c0;have q1:=B0.out.c1;go_enter func77,ntmps77;go_wp2_with fail;rw[<-HW.out];clear HW;go_wp2_with fail;refine(CR.out w0 B0.out.g (B0.out.rows.isC ln (by omega))).mono ?_;rintro e w1 ⟨A1,c1,rfl,ho,b1⟩;have B1:=Zf (B0.out.next b1);have HN1:Hid (IntsN w1 gO A1 (ZaL E O L m')/\(ZaL E O L m').length<=c1):=Zf ⟨IntsN.of ho (by have:=HGL.out;have:=B0.out.lt;omega),by
    rcases ho.2 with⟨e,h0⟩|⟨g',cap,cur,e,hg',hgg',hnc,_⟩
    · injection e with _ e2 _;omega
    · injection e with _ e2 e3;omega⟩
  obtain⟨k1,hk1⟩:∃k,k=(ZaL E O L m').length:=⟨_,rfl⟩;rw[<-hk1];have HK1:=Zf hk1;have hk14:k1<=m':=by rw[hk1];exact Zhh E O L m'
  clear ho b1 B0 CR p0 p1 q0 q1 hk1;have q0:=B1.out.c0;go_wp2;go_loopw [4,12] (fun v i wr=>∃(j k:Nat) (A2:Option Addr) (c2:Nat),j<=n'/\k<=m'/\k<=c2/\i=.int .i64 j/\v=.slice A2 k c2/\Hid (k=(ZaL E (fillK m' E L O j) L m').length)/\Hid (IntsN wr gO A2 (ZaL E (fillK m' E L O j) L m'))/\Hid (StFi wb wf A n c F m d W E gO FL n' m' cO cL (fillK m' E L O j) L wr)) (fun _ i _=>n' - (intOf i).toNat)
  case atStart=>exact⟨0,k1,A1,c1,Nat.zero_le _,hk14,by have:=HN1.out.2;have:=HK1.out;omega,rfl,rfl,HK1,Zf HN1.out.1,B1⟩
  case round=>
    clear B1 HN1 HK1 q0;obtain⟨j,k,A2,c2,hj,hkm,hkc,rfl,rfl,HK,HN,HB⟩:=hrel;have q0:=HB.out.c0;by_cases hlt:j<n'
    · obtain⟨Oj,hOj⟩:∃z,z=fillK m' E L O j:=⟨_,rfl⟩;have HNX:Hid (fillK m' E L O (j+1)=fillOne m' E L Oj j):=Zf (by rw[hOj];rfl);rw[<-hOj]at HK HN HB;obtain⟨b3,o3,x,e3,hb3,hx,d3⟩:=HB.out.rows.rO.ints.at_ (k:=j) (by have:=HB.out.rows.rO.len_eq;omega);have HX:Hid (Oj.getD j 0=x):=Zf (by rw[Zi,hx];rfl);obtain⟨h31,h32⟩:gO=b3/\0=o3:=by
        injection e3 with e3;injection e3 with e31 e32;exact⟨e31,e32⟩
      rw[<-h31,<-h32,Yg]at d3;clear e3 hb3 hx h31 h32 hOj;by_cases hx1:x= -1
      · subst hx1;by_cases hk0:k=0
        · have HNS:Hid (fillK m' E L O (j+1)=Oj):=Zf (by
            have h0:Zaw m' E Oj L= []:=by have h2:=HK.out;rw[hk0]at h2;unfold ZaL at h2;rw[Zai]at h2;exact Yb h2.symm
            rw[HNX.out];unfold fillOne;rw[h0];split<;>rfl)
          have hk0a:decide (0<k)=false:=Zd (by omega);have hk0b:decide ((0:Int)<(k:Int))=false:=Zd (by omega);clear hk0;go_wp2;go_roundw
          case rel=>exact⟨j+1,k,A2,c2,by omega,hkm,hkc,by go_num,rfl,Zf (by rw[HNS.out];exact HK.out),Zf (by rw[HNS.out];exact HN.out),Zf (by rw[HNS.out];exact HB.out)⟩
          case measure=>simp[intOf];omega
        · have hkp:0<k:=by omega
          obtain⟨y,r,hr⟩:∃y r,Zaw m' E Oj L=y::r:=by
            cases hq:Zaw m' E Oj L with
            | nil =>have h2:=HK.out;unfold ZaL at h2;rw[Zai,hq]at h2;exact absurd h2 (by simp;omega)
            |cons y r=>exact⟨y,r,rfl⟩
          have hlen:j<Oj.length:=by have:=HB.out.rows.rO.len_eq;omega
          have HNS:Hid (fillK m' E L O (j+1)=Oj.set j (y:Int)):=Zf (by
            rw[HNX.out];unfold fillOne;rw[Zc HX.out,hr])
          have HRW:Hid (ZaL E Oj L m'=(y:Int)::nums r/\ZaL E (Oj.set j (y:Int)) L m'=nums r):=Zf ⟨by unfold ZaL;rw[hr];rfl,by unfold ZaL;rw[Zka hlen HX.out hr]⟩;have hNN:=HN.out;rw[HRW.out.1]at hNN;obtain⟨b5,o5,rfl,hb5,hne5,d5⟩:=hNN.head;have HTL:=Zf (hNN.tail (c:=c2) (by have:=HK.out;rw[HRW.out.1]at this;simp at this;omega));have HK2:Hid (k - 1=(nums r).length):=Zf (by have:=HK.out;rw[HRW.out.1]at this;simp at this;omega);have hf:=HB.out.rows.rO.frozenC j;have hgs:gO<wr.heap.size:=ZE HGL.out HB.out.tn.size;have hS:=fun W'=>TL b5 o5 k c2 hkp W';obtain⟨A3,hA3⟩:∃z,z=Zn3 (some ⟨b5,o5,none⟩) c2:=⟨_,rfl⟩;have hk0a:decide (0<k)=true:=Ze hkp;have hk0b:decide ((0:Int)<(k:Int))=true:=Ze (by omega);have hne5':b5≠gO:=hne5;rw[<-hA3]at hS HTL;have HNX2:=Zf (HSET.out _ _ HB.out _ hlt (y:Int));have HT3:Hid (Turn2 gO gO wr (wr.setCell ⟨gO,j,none⟩ (.int .i64 (y:Int)))):=Zf ((Turn2.refl _ _ _).setD j _);clear hk0 hr hNN hA3 HNX HX TL hne5;go_wp2
          go_region
          go_wp2;go_roundw
          case rel=>exact⟨j+1,k - 1,A3,c2 - 1,by omega,by omega,by omega,by go_num,rfl,Zf (by rw[HNS.out,HRW.out.2];exact HK2.out),Zf (by rw[HNS.out,HRW.out.2];exact HTL.out.turn (HT3.out.drew)),Zf (by rw[HNS.out];exact HNX2.out.drew)⟩
          case measure=>simp[intOf];omega
      · have hx1a:(x== -1)=false:=beq_eq_false_iff_ne.mpr hx1;have HNS:Hid (fillK m' E L O (j+1)=Oj):=Zf (by
          rw[HNX.out];unfold fillOne;rw[Zb (by rw[HX.out];exact hx1)])
        clear hx1;go_wp2;go_roundw
        case rel=>exact⟨j+1,k,A2,c2,by omega,hkm,hkc,by go_num,rfl,Zf (by rw[HNS.out];exact HK.out),Zf (by rw[HNS.out];exact HN.out),Zf (by rw[HNS.out];exact HB.out)⟩
        case measure=>simp[intOf];omega
    · obtain rfl:n'=j:=by omega
      go_wp2;go_end0;exact⟨rfl,by unfold ZcJ;rw[HO.out];exact HB.out.rows,HB.out.tn⟩
end
theorem Zgl{w:World}{g:Nat}{cur:Array Value}{e:TypeId}{fr:Nat×Nat}(h:w.heap[g]?=some (.cells cur e fr))(d:Array Int):(Sort.putRow (Value.int .i64) w g 0 d).heap[g]?=some (.cells (Sort.putCells (Value.int .i64) 0 d cur) e fr):=by unfold Sort.putRow Sort.mapBlock;simp[Array.getElem?_modify,h,Sort.onCells]
theorem ZcP(w:World){g k:Nat}(hk:k≠g)(d:Array Int):(Sort.putRow (Value.int .i64) w g 0 d).heap[k]?=w.heap[k]?:=by unfold Sort.putRow Sort.mapBlock;simp only[Array.getElem?_modify];rw[Zb (fun e=>hk e.symm)]
theorem Zeq{cur:Array Value}{zs:List Int}(h:zs.length<=cur.size):(Sort.putCells (Value.int .i64) 0 zs.toArray cur).toList.take zs.length=zs.map (Value.int .i64):=by
 apply YU;intro i;rw[List.getElem?_take,ZO];by_cases hi:i<zs.length
 ·rw [Zc hi]
  unfold Sort.putCells;rw[Array.getElem?_toList,Array.getElem?_mapIdx,Array.getElem?_eq_getElem (by omega),Zh hi];simp[hi]
 ·rw[Zb hi,Zt (by omega)];rfl
theorem Zkb(w:World)(B:Nat)(A:Option Addr)(n c:Nat)(zs:List Int)(hn:zs.length=n)(hl:n<=1000)(h:OwnI w B (.slice A n c) zs)(hB:B<=w.heap.size):
  Calls Zg 143 #[.slice A n c] w fun e w'=>e=.returned (.tuple #[])/\OwnI w' B (.slice A n c) (zs.mergeSort fun x y=>decide (x<=y))/\Below B w w':=by
 rcases Nat.eq_zero_or_pos n with h0|h0
 ·subst h0
  obtain rfl:zs= []:=Yb hn;refine(Tryz.slices_Sort_int_none A c w).mono ?_;rintro e w' ⟨rfl,rfl⟩;exact⟨rfl,by simpa using h,Below.refl _ _⟩
 ·rcases h.2 with ⟨e,_⟩ | ⟨g,cap,cur,e,hg,hgg,hnc,hcm,hcs,ht⟩
  ·injection e with _ e2 _;omega
  ·injection e with e1 e2 e3
   subst e1 e3;subst hn;have hH:Sort.Holds (Value.int .i64) w g 0 zs.toArray:=fun j hj=>by
    have hj':j<zs.length:=by simpa using hj
    refine⟨?_,frozen_of_row w g _ _ _ hgg⟩;have hc:=OwnI.ints h;obtain⟨b,off,eb,hb,hcell⟩:=hc (by omega);injection eb with eb;injection eb with eb1 eb2;subst eb1 eb2;rw[hcell j hj',Zi,Zh hj'];simp[hj']
   have hlt:g<w.heap.size:=(Zk.1 hgg).1;refine(Tryz.slices_Sort_int g 0 c zs w hH hlt (by omega)).mono ?_;rintro e w' ⟨rfl,N,os,rfl⟩;have hlen:(zs.mergeSort fun x y=>decide (x<=y)).length=zs.length:=List.length_mergeSort zs;have hgA:(Sort.ahead w N).heap[g]?=some (.cells cur 3 (0,0)):=hgg;refine⟨rfl,?_,?_⟩
   ·refine ⟨by rw [List.length_map,Nat.mul_one],.inr ⟨g,c,Sort.putCells (Value.int .i64) 0 (zs.mergeSort fun x y => decide (x <= y)).toArray cur,by rw [hlen],hg,?_,by rw [hlen]; exact hnc,hcm,by simp [Sort.putCells]; simpa using hcs,?_⟩⟩
    ·rw [Sort.heap_grow_old _ _ (by rw [Sort.size_putRow]; exact hlt)]
     exact Zgl hgA _
    ·rw [Nat.mul_one]
     exact Zeq (by rw[hlen];omega)
   ·refine ⟨rfl,rfl,rfl,by simp [Sort.size_grow,Sort.size_putRow],fun k hk => ?_⟩
    rw[Sort.heap_grow_old _ _ (by rw[Sort.size_putRow];show k<w.heap.size;omega)];exact ZcP (Sort.ahead w N) (by omega) _
theorem Zgm:∀{l1 l2:List Int},(l1.Pairwise fun i j=>i<j)->(l2.Pairwise fun i j=>i<j)->(∀x,x∈l1↔x∈l2)->l1=l2
  | [], [],_,_,_=>rfl
  | [],b::l2,_,_,h=>absurd ((h b).mpr (Z3 ..)) (by simp)
  |a::l1, [],_,_,h=>absurd ((h a).mp (Z3 ..)) (by simp)
  | a :: l1, b :: l2, h1, h2, h => by
    rw[List.pairwise_cons]at h1 h2;have e:a=b:=by
      have ha:=(h a).mp (Z3 ..);have hb:=(h b).mpr (Z3 ..);rcases ZT.mp ha with ha|ha
      · exact ha
      · rcases ZT.mp hb with hb|hb
        · exact hb.symm
        · have:=h1.1 b hb;have:=h2.1 a ha;omega
    subst e;rw[Zgm h1.2 h2.2 fun x=> ?_];have hx:=h x;constructor
    · intro k;rcases ZT.mp (hx.mp (Z1 _ k))with e|k'
      · subst e;have:=h1.1 x k;omega
      · exact k'
    · intro k;rcases ZT.mp (hx.mpr (Z1 _ k))with e|k'
      · subst e;have:=h2.1 x k;omega
      · exact k'
theorem Zrv{l l':List Int}(hn:l.Nodup)(hs:l'.Pairwise fun i j=>i<j)(h:∀x,x∈l↔x∈l'):(l.mergeSort fun x y=>decide (x<=y))=l':=by
 have hp:=List.mergeSort_perm l (fun x y=>decide (x<=y));have h1:(l.mergeSort fun x y=>decide (x<=y)).Pairwise fun x y=>decide (x<=y)=true:=
  List.pairwise_mergeSort (fun a b c q r=>by simp at q r⊢;omega) (fun a b=>by simp;omega) l
 have h2:(l.mergeSort fun x y=>decide (x<=y)).Nodup:=hp.nodup_iff.mpr hn;refine Zgm ?_ hs fun x=>(hp.mem_iff).trans (h x);have h3:=h1.and h2;exact h3.imp fun{a b} q=>by have q1:=q.1;simp at q1;have q2:=q.2;omega
theorem Zmd(n:Nat)(p:Nat->Bool):(nums ((List.range n).filter p)).Pairwise fun i j=>i<j:=by unfold nums;rw[List.pairwise_map];exact(List.pairwise_lt_range.filter p).imp fun{a b} h=>by simpa using h
structure TickC(O L:List Int)(k:Nat)(Oc Lc Dc:List Int):Prop where
 ho:Oc.length=O.length
 hl:Lc.length=L.length
 on:∀(i:Nat) (x:Int),O[i]?=some x->Oc[i]?=some (if i<k/\x≠ -1/\Zaj L x=1 then -1 else x)
 left:∀q:Nat,q<L.length->Zaj Lc (q:Int)=Zaj L (q:Int) - if(q:Int)∈O.take k then 1 else 0
 done:Dc=(O.take k).filter fun x=>decide (x≠ -1/\Zaj L x=1)
section
variable {O L Oc Lc Dc: List Int}{k: Nat}
theorem TickC.start(O L:List Int):TickC O L 0 O L []:=by
 refine⟨rfl,rfl,fun i x h=> ?_,fun q hq=> ?_,by simp⟩
 ·rw[h,Zb (fun q=>by omega)]
 ·rw [Zb (by simp)]
  omega
theorem ZdI{O:List Int}{k:Nat}{x:Int}(hx:O[k]?=some x):O.take (k+1)=O.take k++ [x]:=by rw[List.take_add_one,hx];rfl
theorem TickC.here(h:TickC O L k Oc Lc Dc){x:Int}(hx:O[k]?=some x):Oc[k]?=some x:=by rw[h.on k x hx,Zb (fun q=>by omega)]
theorem TickC.idle(h:TickC O L k Oc Lc Dc)(hx:O[k]?=some (-1)):TickC O L (k+1) Oc Lc Dc:=by
 refine⟨h.ho,h.hl,fun i y hy=> ?_,fun q hq=> ?_,?_⟩
 ·rw [h.on i y hy]
  congr 1;by_cases hik:i=k
  ·subst hik
   rw[hx]at hy;obtain rfl:=Zr hy;rw[Zb (fun q=>by omega),Zb (fun q=>q.2.1 rfl)]
  ·have: (i < k + 1) ↔ (i < k):=by omega
   simp only[this]
 ·rw [h.left q hq,ZdI hx]
  congr 1;have:(q:Int)∈O.take k++ [-1]↔(q:Int)∈O.take k:=by rw[Z2,ZV];exact⟨fun r=>r.resolve_right (by omega),.inl⟩
  simp only[this]
 ·rw [h.done,ZdI hx,List.filter_append]
  simp
theorem TickC.node(h:TickC O L k Oc Lc Dc){n:Nat}(hx:O[k]?=some (n:Int))(hn:n<L.length)(hno:(n:Int)∉O.take k):
  Zaj Lc (n:Int)=Zaj L (n:Int)/\(Zaj L (n:Int)=1->TickC O L (k+1) (Oc.set k (-1)) (Lc.set n (Zaj L (n:Int) - 1)) (Dc++ [(n:Int)]))/\(Zaj L (n:Int)≠1->TickC O L (k+1) Oc (Lc.set n (Zaj L (n:Int) - 1)) Dc):=by
 have hk:k<O.length:=(List.getElem?_eq_some_iff.1 hx).1;have hleft:∀q:Nat,q<L.length->Zaj (Lc.set n (Zaj L (n:Int) - 1)) (q:Int)=Zaj L (q:Int) - if(q:Int)∈O.take (k+1)then 1 else 0:=fun q hq=>by
  have hm:(q:Int)∈O.take (k+1)↔(q:Int)∈O.take k\/q=n:=by rw[ZdI hx,Z2,ZV];exact⟨fun r=>r.imp id (fun e=>by omega),fun r=>r.imp id (fun e=>by omega)⟩
  rw[Za6 (Lc.set n _)];by_cases hqn:q=n
  ·subst hqn
   rw[Zb8 (by rw[h.hl];exact hq),Zc (hm.mpr (.inr rfl))]
  ·rw [Zcl (fun e => hqn e.symm),<- Za6,h.left q hq]
   congr 1;have:(q:Int)∈O.take (k+1)↔(q:Int)∈O.take k:=hm.trans ⟨fun r=>r.resolve_right hqn,.inl⟩;simp only[this]
 have hother:∀i,i≠k->∀x,O[i]?=some x->Oc[i]?=some (if i<k+1/\x≠ -1/\Zaj L x=1 then -1 else x):=fun i hik x hi=>by
  rw[h.on i x hi];have:(i<k+1)↔(i<k):=by omega
  simp only[this]
 have hf:(O.take (k+1)).filter (fun x=>decide (x≠ -1/\Zaj L x=1))=Dc++if Zaj L (n:Int)=1 then [(n:Int)]else []:=by
  rw[ZdI hx,List.filter_append,<-h.done];congr 1;by_cases h1:Zaj L (n:Int)=1
  ·rw [Zc h1]
   have hn1:(n:Int)≠ -1:=by omega
   simp[List.filter,h1,hn1]
  ·rw [Zb h1]
   simp[List.filter,h1]
 refine⟨by rw[h.left n hn,Zb hno];omega,fun h1=>⟨by rw[ZU];exact h.ho,by rw[ZU];exact h.hl,fun i x hi=> ?_,hleft,by rw[hf,Zc h1]⟩,fun h1=>⟨h.ho,by rw[ZU];exact h.hl,fun i x hi=> ?_,hleft,by rw[hf,Zb h1,List.append_nil]⟩⟩
 ·by_cases hik: i = k
  ·subst hik
   rw[hx]at hi;obtain rfl:=Zr hi;rw[List.getElem?_set_self (by rw[h.ho];exact hk),Zc ⟨by omega,by omega,h1⟩]
  ·rw [List.getElem?_set_ne (fun e => hik e.symm)]
   exact hother i hik x hi
 ·by_cases hik: i = k
  ·subst hik
   rw[h.on i x hi];rw[hx]at hi;obtain rfl:=Zr hi;rw[Zb (fun q=>h1 q.2.2),Zb (fun q=>h1 q.2.2)]
  ·exact hother i hik x hi
theorem TickC.end_(h:TickC O L O.length Oc Lc Dc)(hO:∀x∈O,x= -1\/(0<=x/\x<(L.length:Int)))(h1:∀x,x≠ -1->O.count x<=1):Oc=onT O L/\Lc=ZaC O L/\(Dc.mergeSort fun x y=>decide (x<=y))=nums (Zb6 O L):=by
 obtain⟨ho,hl,on,left,done⟩:=h;rw[List.take_length]at left done;refine⟨?_,?_,?_⟩
 ·refine YU fun i => ?_
  unfold onT;rw[ZO];rcases Zv i O.length with hi|hi
  ·have he:=Zh hi
   rw[on i _ he,he];show _=some (if O[i]≠ -1/\Zaj L O[i]=1 then -1 else O[i]);congr 1;simp only[hi,true_and]
  ·rw[Zt (by omega),Zt hi];rfl
 ·refine YU fun i => ?_
  rcases Zv i L.length with hi|hi
  ·have e1:=left i hi
   have e2:=ZbJ (O:=O) hi;rw[Zh (by omega),Zh (by rw[ZcK];exact hi)];congr 1;rw[Za6,Zi,Zh (by omega)]at e1;rw[Za6,Zi,Zh (by rw[ZcK];exact hi)]at e2;simp only[Option.getD_some]at e1 e2;rw[e1,e2]
  ·rw[Zt (by omega),Zt (by rw[ZcK];exact hi)]
 ·refine Zrv ?_ (Zmd _ _) fun x => ?_
  ·rw [done,List.nodup_iff_count]
   intro x;by_cases hx:x= -1
   ·subst hx
    rw[List.count_eq_zero.mpr]
    ·omega
    ·rw [YQ]
     simp
   ·exact ZK (List.filter_sublist.count_le x) (h1 x hx)
  ·rw [done,YQ,decide_eq_true_iff]
   unfold nums;rw[List.mem_map];constructor
   ·rintro ⟨hm,hne,hle⟩
    rcases hO x hm with e|⟨e1,e2⟩
    ·exact absurd e hne
    ·refine⟨x.toNat,mem_doneT.mpr ⟨by omega,?_,?_⟩,Int.toNat_of_nonneg e1⟩<;>rw[Int.toNat_of_nonneg e1]<;>assumption
   ·rintro ⟨y,hy,rfl⟩
    obtain⟨e1,e2,e3⟩:=mem_doneT.mp hy;exact⟨e2,by simp only[Int.ofNat_eq_natCast];omega,e3⟩
end
end Go.Proofs.YtfahabphncmbfaaGreatDoor
