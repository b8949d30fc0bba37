import Derived.Test.YtfahabphncmbfaaGreatDoorZQ40
set_option linter.all false
set_option maxRecDepth 100000
set_option maxHeartbeats 8000000
namespace Go.Proofs.YtfahabphncmbfaaGreatDoor
open Go Go.RowKit
open _root_.Array renaming getElem?_eq_some_iff→Zk,replicate→Yt,size_setIfInBounds→ZQ
open Go.Lib renaming hid→Zf
open List renaming length_append→Zq,length_map→ZH,length_replicate→Yv,replicate→Zj
open Nat renaming le_refl→Zm,le_trans→ZK,lt_trans→YI
open Go.Proofs.Tryz renaming prog→Zg
open Go renaming cell_of_row→Yaf,frozen_of_row→Yaj,heap_alloc_new→Yak
open Go.Proofs.Tryz
theorem Zqv(g:Nat)(lb:Array Value)(w:World):Calls Zg 89 #[.slice none 0 0,.func (.func g) #[] lb] w fun e w'=>e=.returned (.int .i64 (-1))/\w'=w:=by
 go_enter func89,ntmps89;go_wp2;go_loopw [8] (fun v wr=>v=.int .i64 0/\wr=w) (fun v _=>0)
 case atStart=>exact⟨rfl,rfl⟩
 case round=>obtain⟨rfl,rfl⟩:=hrel;go_wp2;go_ret;exact⟨rfl,rfl⟩
theorem Zqw(g:Nat)(lb:Array Value)(w:World):Calls Zg 94 #[.slice none 0 0,.func (.func g) #[] lb] w fun e w'=>e=.returned (.slice none 0 0)/\w'=w:=by have C:=Zf (Zqv g lb w);go_enter func94,ntmps94;go_wp2_with(go_at_call 89;refine C.out.mono ?_;rintro e w' ⟨rfl,rfl⟩);go_ret;exact⟨rfl,rfl⟩
theorem Zqx(w:World):(zeroValue 3).run Zg w=.ok (.int .i64 0) w:=by obtain⟨i0,hi,hz0,hz1,hz2⟩:=Zev;simp[zeroValue,typeInfo,hi,hz0]
section
variable {w: World}{B: Nat}{A: Option Addr}{n c: Nat}{zs: List Int}
theorem Zoz(h:OwnI w B (.slice A n c) zs)(hl:zs.length=n)(hn:n<=1000)(g:Nat)(eg:∀args w,(callFunc g args).run Zg w=.ok (.enter g args) w)(p:Int->Bool){q:Nat}{A2:Option Addr}{c2:Nat}{ys:List Int}
  (hc:w.cell? ⟨q,0,none⟩=some (.slice A2 ys.length c2))(hq:q<w.heap.size)(hqb:(Value.slice A n c).ownBlock≠some q)(hy:Ints w w.heap.size A2 ys)(hyb:∀b off,A2=some ⟨b,off,none⟩->(Value.slice A n c).ownBlock≠some b)
  (hp:∀W x,W.cell? ⟨q,0,none⟩=some (.slice A2 ys.length c2)->Ints W w.heap.size A2 ys->Calls Zg g #[.int .i64 x,.pointer (some ⟨q,0,none⟩)] W fun e w'=>e=.returned (.bool (p x))/\w'=W):
  Calls Zg 94 #[.slice A n c,.func (.func g) #[] #[.pointer (some ⟨q,0,none⟩)]] w fun e w'=>
   e=.returned (.slice A (zs.filter fun x=> !p x).length c)/\OwnI w' B (.slice A (zs.filter fun x=> !p x).length c) (zs.filter fun x=> !p x)/\∀bs:List Nat,(∀b,(Value.slice A n c).ownBlock=some b->b∈bs)->Kp bs w w':=by
 subst hl;rcases h.2 with⟨e,hx⟩|⟨b,cap,cur,e,hb,hbb,hnc,hcm,hcs,ht⟩
 ·injection e with e1 e2 e3
  subst e1 e3;obtain rfl:zs= []:=List.eq_nil_of_length_eq_zero e2;refine(Zqw g _ w).mono ?_;rintro e w' ⟨rfl,rfl⟩;exact⟨rfl,⟨rfl,.inl ⟨rfl,rfl⟩⟩,fun bs _=>Kp.of_below (Below.refl _ _) _⟩
 ·injection e with e1 e2 e3
  subst e1 e3;have hbl:b<w.heap.size:=(Zk.1 hbb).1;have hqb':q≠b:=fun e=>hqb (by rw[e];rfl);have hcur:cur.size=c:=by omega
  have hcell:∀j (hj:j<zs.length),w.cell? ⟨b,j,none⟩=some (.int .i64 zs[j]):=fun j hj=>by
   rw[Yaf _ _ _ _ _ _ hbb];have h1:(cur.toList.take (zs.length * 1))[j]?=(zs.map (Value.int .i64))[j]?:=by rw[ht]
   rw[List.getElem?_take,Zc (by omega),Array.getElem?_toList,List.getElem?_map,List.getElem?_eq_getElem hj]at h1;exact h1
  have hH:Sort.Holds (Value.int .i64) w b 0 zs.toArray:=fun j hj=>by
   have hj':j<zs.length:=by simpa using hj
   refine⟨?_,Yaj w b _ _ _ hbb⟩;rw[Nat.zero_add,hcell j hj'];simp[hj']
  have hat:∀(W:World) (x:Int),(∀k,k≠b->k<w.heap.size->∀i,W.cell? ⟨k,i,none⟩=w.cell? ⟨k,i,none⟩)->Calls Zg g #[.int .i64 x,.pointer (some ⟨q,0,none⟩)] W fun e w'=>e=.returned (.bool (p x))/\w'=W:=fun W x hW=>
   hp W x ((hW q hqb' hq 0).trans hc) (fun hn=>by obtain⟨b2,off,e,hb2,hc2⟩:=hy hn;have hne:b2≠b:=fun e2=>hyb b2 off e (by rw[e2];rfl);exact⟨b2,off,e,hb2,fun k hk=>(hW b2 hne hb2 _).trans (hc2 k hk)⟩)
  have C:=Tryz.slices_DeleteFunc (Value.int .i64) (fun _=>rfl) p g #[.pointer (some ⟨q,0,none⟩)] eg 0 Zqx b 0 c zs.toArray w
   (fun W x hW=>(hat W x fun k _ hk i=>hW.cell hk).mono fun e w' h=>⟨h.1,0,h.2⟩)
   (fun m os dk x _ => (hat _ x fun k hk hk2 i => by
    unfold sortWorld;rw[Sort.cell?_grow _ _ _ (by rw[Sort.size_putRow];exact hk2),Sort.cell?_putRow_other _ _ b 0 _ _ (.inl hk)];rfl).mono fun e w' h=>⟨h.1,0,h.2⟩) hH (by have:=hcm;simp;unfold maxLen at this;omega) (by simpa using hnc)
  have hsz:zs.toArray.size=zs.length:=by simp
  rw[hsz]at C;refine C.mono ?_;rintro e w' ⟨rfl,k,rfl⟩;obtain⟨fs,hfs⟩:∃fs,fs=zs.filter fun x=> !p x:=⟨_,rfl⟩;have hfl:fs.length<=zs.length:=by rw[hfs];exact List.length_filter_le _ _
  have hfs2:(zs.toArray.toList.filter fun x=> !p x)=fs:=by rw[hfs]
  rw[hfs2];have hgA:(Sort.ahead w k).heap[b]?=some (.cells cur 3 (0,0)):=hbb;refine⟨rfl,?_,fun bs hbs=>⟨rfl,rfl,rfl,by rw[Sort.size_putRow];exact Zm _,fun j hj hjb=> ?_⟩⟩
  ·refine ⟨by rw [ZH,Nat.mul_one],.inr ⟨b,c,Sort.putCells (Value.int .i64) 0 (fs ++ Zj (zs.length - fs.length) 0).toArray cur,rfl,hb,Zgl hgA _,by omega,hcm,by simp [Sort.putCells]; omega,?_⟩⟩
   have h1:=Zeq (cur:=cur) (zs:=fs++Zj (zs.length - fs.length) 0) (by rw[Zq,Yv];omega);have h2:=congrArg (List.take fs.length) h1;rw[List.take_take,Zq,Yv,show min fs.length (fs.length+(zs.length - fs.length))=fs.length by omega,List.map_append,List.take_left' (by rw[ZH])]at h2;rw[Nat.mul_one];exact h2
  ·have hjb2: j ≠ b:=fun e => hjb (hbs j (by rw [e]; rfl))
   rw[ZcP (Sort.ahead w k) hjb2];rfl
end
section
variable {base gw m: Nat}{g: Gng}{L: List Int}{a: GAd}{vW vE: Value}
theorem Zqy{x:Nat}(w:World)(hm1:1<=m)(hm:m<=8)(hT:DTab w)(h:IsWk w base gw m g L a vW vE)(hl:(g.R (x%m)).length=64)(hp:Zcr 64 (g.T (x%m)) (g.B (x%m))=0):
  Calls Zg 87 #[.pointer (some ⟨gw,0,none⟩),.int .i64 x] w fun e w'=>e=.returned (.int .i64 0)/\∃v,IsWk w' base gw m (ZeZ g (x%m) x) L {a with Rv:=updG a.Rv (x%m) v} vW vE/\Kp [a.gD] w w':=by
 obtain⟨j,hj⟩:∃j,j=x%m:=⟨_,rfl⟩;have hjm:j<m:=by rw[hj];exact Nat.mod_lt _ (by omega)
 rw[<-hj]at hl hp⊢;have HJ:Hid ((x:Int).tmod (m:Int)=(j:Int)):=Zf (by rw[hj];simp[Int.tmod]);have CS:=Zf (fun(W:World) (hb:Below w.heap.size w W)=>Zgq (c:=j) hjm (h.below hb));have CQ:=Zf (fun(W:World) (hb:Below w.heap.size w W)=>Zqj (x:Int) W hjm hm (hT.via hb) (h.below hb) hl hp);have H:=Zf h;have hm0:¬m=0:=by omega
 have c0:w.cell? ⟨gw,0,none⟩=some (.slice (some ⟨a.gO,0,none⟩) m a.cO):=h.row.cell rfl;have e1:(x:Int).tmod (m:Int)=(j:Int):=HJ.out;clear h hT hl hp hj hjm;go_enter func87,ntmps87;go_upto_region 1 with fail
 go_wp2_with(first
  |(go_at_call 96;refine(CS.out _ (Below.refl _ _)).mono ?_;rintro e w1 ⟨rfl,hb⟩;(have HB1:=Zf hb);clear hb)
  |(go_at_call 97;refine(CQ.out _ HB1.out).mono ?_;rintro e w2 ⟨rfl,v,hwk,hkp⟩;(have HW:=Zf hwk);(have HK:=Zf hkp);clear hwk hkp))
 go_ret;exact⟨rfl,v,HW.out,(Kp.of_below HB1.out _).trans HK.out⟩
end
theorem Zlt(A:Option Addr)(c n B:Nat)(l:List Int)(g:Nat)(v1:Value)(eg:∀args w,(callFunc g args).run Zg w=.ok (.enter g args) w)(I:Nat->World->Prop)(hn:l.length=n)(hl:n<=1000)
  (hI:∀k W,I k W->Ints W B A l)
  (hp:∀k x W,l[k]?=some x->I k W->Calls Zg g #[v1,.int .i64 x] W fun e w'=>e=.returned (.int .i64 0)/\I (k+1) w')
  (w:World)(h0:I 0 w):
  Calls Zg 85 #[.slice A n c,.func (.func g) #[v1] #[]] w fun e w'=>e=.returned (.int .i64 0)/\I n w':=by
 have HT:=Zf hI;have HP:=Zf hp;have HN:=Zf hn;have H0:=Zf h0;clear hI hp hn h0;go_enter func85,ntmps85;go_wp2;go_loopw [10] (fun v wr=>∃k:Nat,k<=n/\v=.int .i64 k/\Hid (I k wr)) (fun v _=>n - (intOf v).toNat)
 case atStart=>exact⟨0,Nat.zero_le _,rfl,H0⟩
 case round=>
  obtain⟨k,hk,rfl,HI⟩:=hrel;clear H0;by_cases hlt:k<n
  ·obtain ⟨bk,off,x,rfl,hbg,hek,d1⟩:=(HT.out k wr HI.out).at_ (k:=k) (by rw [HN.out]; exact hlt)
   have HEK:=Zf hek;have hcall:=HP.out k x wr hek HI.out;clear hek;go_wp2_with(go_at_fn g;refine hcall.mono ?_;rintro e w' ⟨rfl,hb'⟩;have HB:=Zf hb';clear hb');go_roundw
   case rel=>exact⟨k+1,by omega,by go_num,HB⟩
   case measure=>simp[intOf];omega
  ·have e: k = n:=by omega
   subst e;go_wp2;go_ret;exact⟨rfl,HI.out⟩
theorem Zfv{fn:Func}{p u t:Tmp}{ty:TypeId}(h:fn.results= #[.cell p ty,.tmp u,.tmp t])(tmps:Array Value)(P:Program)(w:World):
  (results fn tmps).run P w =
   ((asAddr (tmps.getD p undef)).run P w).andThen fun a w₁=>((loadVar ty a).run P w₁).andThen fun v w₂=> .ok (.tuple #[v,tmps.getD u undef,tmps.getD t undef]) w₂:=by
 simp only[results,h];simp[Sem.run_bind,Result.andThen]
structure BxF(wf:World)(A:Option Addr)(n c:Nat)(F:Option Addr)(m d:Nat)(W:List Int)(E:List (Int×Int))(u1 v1:Value)(w:World):Prop where
 bel:Below wf.heap.size wf w
 d0:w.cell? ⟨wf.heap.size,0,none⟩=some (.slice A n c)
 d1:w.cell? ⟨wf.heap.size,1,none⟩=some (.slice F m d)
 r1:w.heap[wf.heap.size+1]?=some (.cells #[u1,v1] 37 (0,0))
 r2:w.heap[wf.heap.size+1+1]?=some (.cells #[.slice none 0 0,.slice none 0 0] 37 (0,0))
 g0:IsG wf A n c F m d W E
section
variable {A: Option Addr}{n c: Nat}{F: Option Addr}{m d: Nat}{W: List Int}{E: List (Int × Int)}{A': Option Addr}{n' c': Nat}{F': Option Addr}{m' d': Nat}{O L: List Int}{wf w w': World}{u1 v1: Value}
theorem BxF.g(h:BxF wf A n c F m d W E u1 v1 w):IsG w A n c F m d W E:=h.g0.below h.bel
theorem BxF.lt(h:BxF wf A n c F m d W E u1 v1 w):wf.heap.size+1+1<w.heap.size:=(Zk.1 h.r2).1
theorem BxF.later(h:BxF wf A n c F m d W E u1 v1 w)(hb:Below (wf.heap.size+1+1+1) w w'):BxF wf A n c F m d W E u1 v1 w':=
 ⟨h.bel.trans (hb.mono (by omega)),(hb.cell (show wf.heap.size<wf.heap.size+1+1+1 by omega)).trans h.d0,(hb.cell (show wf.heap.size<wf.heap.size+1+1+1 by omega)).trans h.d1,(hb.block _ (by omega)).trans h.r1,(hb.block _ (by omega)).trans h.r2,h.g0⟩
theorem BxF.next(h:BxF wf A n c F m d W E u1 v1 w)(hb:Below w.heap.size w w'):BxF wf A n c F m d W E u1 v1 w':=h.later (hb.mono h.lt)
theorem BxF.set1(h:BxF wf A n c F m d W E u1 v1 w)(a b:Value):BxF wf A n c F m d W E a b ((w.setCell ⟨wf.heap.size+1,0,none⟩ a).setCell ⟨wf.heap.size+1,1,none⟩ b):=by have hoth:=Zcd w (wf.heap.size+1) a b;have hb:Below (wf.heap.size+1) w ((w.setCell ⟨wf.heap.size+1,0,none⟩ a).setCell ⟨wf.heap.size+1,1,none⟩ b):=ZcI (Zm _) _ _;exact⟨h.bel.trans (hb.mono (by omega)),(hb.cell (show wf.heap.size<wf.heap.size+1 by omega)).trans h.d0,(hb.cell (show wf.heap.size<wf.heap.size+1 by omega)).trans h.d1,Zeo h.r1 _ _,by rw[hoth _ (by omega)];exact h.r2,h.g0⟩
theorem BxF.start(hg:IsG w A n c F m d W E)(A':Option Addr)(n' c':Nat)(F':Option Addr)(m' d':Nat):BxF w A n c F m d W E (.slice A' n' c') (.slice F' m' d') (((w.alloc (.cells #[.slice A n c,.slice F m d] 25)).alloc (.cells #[.slice A' n' c',.slice F' m' d'] 37)).alloc (.cells #[.slice none 0 0,.slice none 0 0] 37)):=by
 obtain⟨w0,hw0⟩:∃w0,w0=w.alloc (.cells #[.slice A n c,.slice F m d] 25):=⟨_,rfl⟩;have s0:w0.heap.size=w.heap.size+1:=by rw[hw0];simp
 have b0:Below w.heap.size w w0:=by rw[hw0];exact Zaa _
 have d0:∀j u,(#[.slice A n c,.slice F m d]:Array Value)[j]?=some u->w0.cell? ⟨w.heap.size,j,none⟩=some u:=fun j u hu=>by rw[hw0,World.cell?_alloc_at _ _ _ _ rfl];exact hu
 rw[<-hw0];clear hw0;obtain⟨w1,hw1⟩:∃w1,w1=w0.alloc (.cells #[.slice A' n' c',.slice F' m' d'] 37):=⟨_,rfl⟩;have s1:w1.heap.size=w.heap.size+1+1:=by rw[hw1];simp[s0]
 have b1:Below w0.heap.size w0 w1:=by rw[hw1];exact Zaa _
 have r1:w1.heap[w.heap.size+1]?=some (.cells #[.slice A' n' c',.slice F' m' d'] 37 (0,0)):=by rw[hw1,<-s0];exact Yak _ _
 rw[<-hw1];clear hw1;obtain⟨w2,hw2⟩:∃w2,w2=w1.alloc (.cells #[.slice none 0 0,.slice none 0 0] 37):=⟨_,rfl⟩;have b2:Below w1.heap.size w1 w2:=by rw[hw2];exact Zaa _
 have r2:w2.heap[w.heap.size+1+1]?=some (.cells #[.slice none 0 0,.slice none 0 0] 37 (0,0)):=by rw[hw2,<-s1];exact Yak _ _
 rw[<-hw2];refine⟨b0.trans ((b1.mono (by omega)).trans (b2.mono (by omega))),?_,?_,?_,r2,hg⟩
 ·rw[b2.cell (show w.heap.size<w1.heap.size by omega),b1.cell (show w.heap.size<w0.heap.size by omega)];exact d0 0 _ rfl
 ·rw[b2.cell (show w.heap.size<w1.heap.size by omega),b1.cell (show w.heap.size<w0.heap.size by omega)];exact d0 1 _ rfl
 ·rw[b2.block _ (by omega)];exact r1
theorem RowsC.other{B gO:Nat}{FL:Option Addr}{n m cO cL:Nat}{O L:List Int}{w w':World}{g:Nat}{cs:Array Value}(h:RowsC B gO FL n m cO cL O L w)(hg:w.heap[g]?=some (.cells cs 37 (0,0)))(hk:∀k,k≠g->w'.heap[k]?=w.heap[k]?):RowsC B gO FL n m cO cL O L w':=
 ⟨Zbl h.rO hg (by decide) hk,Zbl h.rL hg (by decide) hk,h.ne⟩
theorem RowsC.down{B B' gO:Nat}{FL:Option Addr}{n m cO cL:Nat}{O L:List Int}{w:World}(h:RowsC B gO FL n m cO cL O L w)(hB:B'<=B):RowsC B' gO FL n m cO cL O L w:=⟨h.rO.down hB,h.rL.down hB,h.ne⟩
end
section
variable {A: Option Addr}{n c: Nat}{F: Option Addr}{m d: Nat}{W: List Int}{E: List (Int × Int)}{A': Option Addr}{n' c': Nat}{F': Option Addr}{m' d': Nat}{O L: List Int}
theorem Zhn(w:World)(hz0:ZcW W E O L=0)(hg:IsG w A n c F m d W E)(hk:IsC w A' n' c' F' m' d' O L):
  Calls Zg 86 #[.agg #[.slice A n c,.slice F m d],.agg #[.slice A' n' c',.slice F' m' d']] w (GotOwn (Zcy W E O L) w):=by
 obtain⟨w0,hw0⟩:∃w0,w0=(w.alloc (.cells #[.slice A n c,.slice F m d] 25)).alloc (.cells #[.slice A' n' c',.slice F' m' d'] 37):=⟨_,rfl⟩;have B0:Hid (BxDC w A n c F m d W E A' n' c' F' m' d' O L w0):=Zf (by rw[hw0];exact BxDC.start hg hk);have HW:=Zf hw0;have CK:=Zf (ZeX w0 B0.out.g B0.out.k);obtain⟨z,hz⟩:∃z,z=ZcW W E O L:=⟨_,rfl⟩;rw[<-hz]at CK;have hmw:=hk.hm;clear hw0 hg hk;have p0:=B0.out.d0;have p1:=B0.out.d1;have q0:=B0.out.c0;have q1:=B0.out.c1
 ·obtain rfl: z = 0:=hz.trans hz0
  obtain⟨hM,hC⟩:=crewE_zero.mp hz.symm;have CR:=Zf (fun W' (h1:IsG W' A n c F m d W E) (h2:IsC W' A' n' c' F' m' d' O L)=>ZeY W' h1 h2 hM.fits hM.nodes hC.ln);have HV:Hid (Zcy W E O L=ZaL E O L m'):=Zf (by unfold Zcy;rw[Zc hz.symm,<-hC.ln,hmw]);clear hM hC hz hmw;go_enter func86,ntmps86;go_wp2_with fail;rw[<-HW.out];refine CK.out.mono ?_;rintro e w1 ⟨rfl,b1⟩;have B1:=Zf (B0.out.next b1);clear b1 B0 CK p0 p1 q0 q1;have p0:=B1.out.d0;have p1:=B1.out.d1;have q0:=B1.out.c0;have q1:=B1.out.c1;go_wp2_with fail;refine(CR.out w1 B1.out.g B1.out.k).mono ?_;rintro e w2 ⟨A1,c1,rfl,ho,b2⟩;have B2:=Zf (B1.out.next b2);have HO:=Zf ho;clear ho b2;go_wp2;go_ret;exact⟨A1,c1,by rw[HV.out];rfl,by rw[HV.out];exact HO.out.down B1.out.bel.size,B2.out.bel⟩
end
section
variable {A: Option Addr}{n c: Nat}{F: Option Addr}{m d: Nat}{W: List Int}{E: List (Int × Int)}{A': Option Addr}{n' c': Nat}{F': Option Addr}{m' d': Nat}{O L: List Int}{wf w w': World}{u1 v1: Value}
theorem ZoA(w:World)(hz0:ZcW W E O L=0)(hg:IsG w A n c F m d W E)(hk:IsC w A' n' c' F' m' d' O L):
  Calls Zg 91 #[.agg #[.slice A n c,.slice F m d],.agg #[.slice A' n' c',.slice F' m' d']] w fun e w'=>∃gO cO FL cL A5 c5,e=.returned (.tuple #[.agg #[.slice (some ⟨gO,0,none⟩) n' cO,.slice FL m' cL],.slice A5 (nums (Zb6 O L)).length c5,.int .i64 0])/\RowsC w.heap.size gO FL n' m' cO cL (onT O L) (ZaC O L) w'/\OwnI w' w.heap.size (.slice A5 (nums (Zb6 O L)).length c5) (nums (Zb6 O L))/\Below w.heap.size w w':=by
 obtain⟨w0,hw0⟩:∃w0,w0=((w.alloc (.cells #[.slice A n c,.slice F m d] 25)).alloc (.cells #[.slice A' n' c',.slice F' m' d'] 37)).alloc (.cells #[.slice none 0 0,.slice none 0 0] 37):=⟨_,rfl⟩;have B0:Hid (BxF w A n c F m d W E (.slice A' n' c') (.slice F' m' d') w0):=Zf (by rw[hw0];exact BxF.start hg _ _ _ _ _ _);have HW:=Zf hw0;have CK:=Zf (ZeX w0 B0.out.g (hk.below B0.out.bel));obtain⟨z,hz⟩:∃z,z=ZcW W E O L:=⟨_,rfl⟩;rw[<-hz]at CK;have HZ:=Zf hz;have HK:=Zf hk;have HG:=Zf hg;have ln:=hk.ln;have lm:=hk.lm;clear hw0 hg hk hz;have p0:=B0.out.d0;have p1:=B0.out.d1;have q0:=Yaf _ _ 0 _ _ _ B0.out.r1;have q1:=Yaf _ _ 1 _ _ _ B0.out.r1;simp at q0 q1
 ·obtain rfl: z = 0:=HZ.out.trans hz0
  obtain⟨hM,hC⟩:=crewE_zero.mp HZ.out.symm;have hn0:0<n':=by have:=hC.lo;have:=HK.out.hn;omega
  have HV:Hid (Zsl W E O L=onT O L/\Zsm W E O L=ZaC O L/\Zsn W E O L=nums (Zb6 O L)):=Zf (by
   unfold Zsl Zsm Zsn;rw[Zc HZ.out.symm,Zc HZ.out.symm,Zc HZ.out.symm];exact⟨rfl,rfl,rfl⟩)
  have CC:=Zf (fun W' (h:IsC W' A' n' c' F' m' d' O L)=>Zmc W' h hn0);have CF:=Zf (fun W' gO cO FL cL (hr:RowsC (w.heap.size+1+1+1) gO FL n' m' cO cL O L W')=>ZiY (w.heap.size+1+1+1) W' hr (fun x hx=>(hC.on x hx).imp id fun q=>⟨q.1.1,by rw[hC.ln];exact q.1.2⟩) hC.once hC.left ln lm);clear hM hC;go_enter func91,ntmps91;go_wp2_with fail;rw[<-HW.out];refine CK.out.mono ?_;rintro e w1 ⟨rfl,b1⟩;have B1:=Zf (B0.out.next b1);clear b1 B0 CK p0 p1 q0 q1 HW;have q0:=Yaf _ _ 0 _ _ _ B1.out.r1;have q1:=Yaf _ _ 1 _ _ _ B1.out.r1;simp at q0 q1;go_wp2_with fail;refine(CC.out w1 (HK.out.below B1.out.bel)).mono ?_;rintro e w2 ⟨gO,cO,FL,cL,rfl,hr2,b2⟩;have B2:=Zf (B1.out.next b2);have HR2:=Zf (hr2.down B1.out.lt);clear hr2 b2 B1 CC q0 q1;have q0:=Yaf _ _ 0 _ _ _ B2.out.r1;have q1:=Yaf _ _ 1 _ _ _ B2.out.r1;have z0:=Yaj w2 (w.heap.size+1) 0 _ _ B2.out.r1;have z1:=Yaj w2 (w.heap.size+1) 1 _ _ B2.out.r1;have B3:=Zf (B2.out.set1 (.slice (some ⟨gO,0,none⟩) n' cO) (.slice FL m' cL));have HSZ:=Zf B3.out.bel.size;have HR3:=Zf (HR2.out.other B2.out.r1 (Zcd w2 (w.heap.size+1) (.slice (some ⟨gO,0,none⟩) n' cO) (.slice FL m' cL)));have u0:=Yaf _ _ 0 _ _ _ B3.out.r1;have u1:=Yaf _ _ 1 _ _ _ B3.out.r1;have l2:w.heap.size+1<w2.heap.size:=by have:=B2.out.lt;omega
  simp at q0 q1 u0 u1;go_wp2_with fail;refine(CF.out _ gO cO FL cL HR3.out).mono ?_;rintro e w4 ⟨A5,k5,c5,gL,rfl,hd,hkd,hr4,_,hgL,ht4⟩;have hgO:w.heap.size+1+1+1<=gO:=by obtain⟨cur,_,h,_⟩:=HR2.out.rO.blockC;exact h
  have B4:Hid (BxF w A n c F m d W E (.slice (some ⟨gO,0,none⟩) n' cO) (.slice FL m' cL) w4):=Zf (B3.out.later (ht4.below (by have:=B3.out.lt;omega) (by omega) (by omega)));have HR4:=Zf hr4;have HD4:=Zf hd;clear hr4 ht4 hgO B3 B2 HR2 HR3 q0 q1 z0 z1 u0 u1 l2 CF hd;have q0:=Yaf _ _ 0 _ _ _ B4.out.r1;have q1:=Yaf _ _ 1 _ _ _ B4.out.r1;have r0:=Yaf _ _ 0 _ _ _ B4.out.r2;have r1:=Yaf _ _ 1 _ _ _ B4.out.r2;have z0:=Yaj w4 (w.heap.size+1+1) 0 _ _ B4.out.r2;have z1:=Yaj w4 (w.heap.size+1+1) 1 _ _ B4.out.r2;simp at q0 q1 r0 r1;have HF2:=Zf (Zeo B4.out.r2 (.slice (some ⟨gO,0,none⟩) n' cO) (.slice FL m' cL));have hb5:Below (w.heap.size+1+1) w4 ((w4.setCell ⟨w.heap.size+1+1,0,none⟩ (.slice (some ⟨gO,0,none⟩) n' cO)).setCell ⟨w.heap.size+1+1,1,none⟩ (.slice FL m' cL)):=ZcI (Zm _) _ _;have HB5:=Zf (B4.out.bel.trans (hb5.mono (by omega)));have HR5:=Zf (HR4.out.other B4.out.r2 (Zcd w4 (w.heap.size+1+1) (.slice (some ⟨gO,0,none⟩) n' cO) (.slice FL m' cL)));have HD5:=Zf ((Zbl HD4.out B4.out.r2 (by decide) (Zcd w4 (w.heap.size+1+1) (.slice (some ⟨gO,0,none⟩) n' cO) (.slice FL m' cL))));have HK5:=Zf hkd;clear hb5 hkd;go_wp2;have hdl:(nums (Zb6 O L)).length=k5:=HK5.out;refine bodyPost_ret (v:=.tuple #[.agg #[.slice (some ⟨gO,0,none⟩) n' cO,.slice FL m' cL],.slice A5 k5 c5,.int .i64 0]) ?_ rfl ⟨gO,cO,FL,cL,A5,c5,by rw[hdl],HR5.out.down (by omega),OwnI.down (show OwnI _ (_+1) (.slice A5 (nums (Zb6 O L)).length c5) (nums (Zb6 O L))from by rw[hdl];exact HD5.out) (ZK HSZ.out (Nat.le_succ _)),HB5.out⟩;rw[Zfv rfl];simp[asAddr,run_loadVar_row _ (w.heap.size+1+1) _ _ _ _ _ HF2.out underlying37 rfl (by kernel_rfl),Result.andThen]
end
section
variable {P: Program}{ops: Array Oper}{Q: Exit -> Act -> World -> Prop}
theorem Ze2(p:Nat)(ds S R:List Nat)(base:Nat){id:Nat}{a0:Act}{w0:World}(hm:P.follows .mixedOrders=true)(hG:ZfR ops p ds S=true)(hsz:∀d∈ds,d<a0.tmps.size\/1000<=d)
    (I:World->Prop)(Φ:Nat->Value->World->Prop)(Θ:(Nat->Value)->World->Prop)
    (hI:∀w w',I w->Below w.heap.size w w'->I w')(hΦ:∀k v w w',Φ k v w->Below w.heap.size w w'->Φ k v w')
    (h0:I {w0 with drawn:=w0.drawn+1})
    (hstep:∀(k:Nat) (o:Oper),k≠p->k∉S->ops[k]?=some o->∀(a:Act) (w:World),I w->AtDoor a0 ds a.eval->(∀e∈o.after,Region.binds .any e=true->Φ e.on (a.eval (.tmp (ds.getD e.on 0))) w)->
      ∀K:Act->World->Prop,(∀v w',Φ k v w'->Below w.heap.size w w'->K (a.put o.dst v) w')->o.wp P a w K Q)
    (hside:∀(k:Nat) (o:Oper),k∈S->ops[k]?=some o->∀(ρ:Operand->Value) (w:World),base<=w.heap.size->AtDoor a0 ds ρ->(∀e∈o.after,Region.binds .any e=true->e.on≠p->∃w1,Φ e.on (ρ (.tmp (ds.getD e.on 0))) w1/\(e.on∈R->w1=w))->
      ∃v w',(execOp ρ o).run P w=.ok (.value v) w'/\Φ k v w'/\Below w.heap.size w w')
    (hstore:∀(o:Oper),ops[p]?=some o->∀(a:Act) (w:World),I w->AtDoor a0 ds a.eval->(∀k,k<ds.length->k≠p->k∉S->Φ k (a.eval (.tmp (ds.getD k 0))) w)->
      ∀K:Act->World->Prop,(∀w',Θ (fun t=>a.eval (.tmp t)) w'->base<=w'.heap.size->(∀k,k∈R->∀v,Φ k v w->Φ k v w')->K a w')->o.wp P a w K Q)
    (hΘ:∀(f g:Nat->Value) w,(∀k,k<ds.length->k≠p->k∉S->f (ds.getD k 0)=g (ds.getD k 0))->Θ f w->Θ g w)
    (hΘb:∀(f:Nat->Value) w w',Θ f w->Below w.heap.size w w'->Θ f w')(hbase:base<=w0.heap.size)
    (hend:∀(vals:Nat->Value) (w:World),Θ vals w->(∀k,k<ds.length->k≠p->∃w',Φ k (vals (ds.getD k 0)) w'/\(k∈R->w'=w))->Q .normal ⟨(ZaW a0 ds vals).toArray,a0.defers⟩ w):
    (Code.region id ops true).wp P Q a0 w0:=by
  have G:=ZfS hG;refine Zbi (fun l a w=>l.size=ds.length/\AtDoor a0 ds a.eval/\a.tmps.size=a0.tmps.size/\a.defers=a0.defers/\
    (∀(i:Nat) (o:Oper),l.getD i false=true->ops[i]?=some o->∀e∈o.after,Region.binds .any e=true->l.getD e.on false=true)/\
    base<=w.heap.size/\
    ((l.getD p false = false /\ I w /\∀ k, k < ds.length -> k ≠ p -> l.getD k false = true -> Φ k (a.eval (.tmp (ds.getD k 0))) w) \/
     (l.getD p false=true/\Θ (fun t=>a.eval (.tmp t)) w/\∀k,k<ds.length->k≠p->l.getD k false=true->∃w',Φ k (a.eval (.tmp (ds.getD k 0))) w'/\(k∈R->w'=w)))) hm ?_ ?_ ?_
  · have hno:∀k,¬(Yt ops.size false).getD k false=true:=fun k h=>by
      by_cases h2:k<ops.size<;>simp[h2]at h
    refine⟨by rw[Array.size_replicate];exact G.size,Zbb a0 ds,rfl,rfl,fun k o h=>absurd h (hno k),hbase,.inl ⟨?_,h0,fun k hk hkp h=>absurd h (hno k)⟩⟩
    cases h:(Yt ops.size false).getD p false with
    |false=>rfl
    |true=>exact absurd h (hno p)
  · rintro l a w i ⟨hls,hAD,hasz,hadf,hcl,hbw,hV⟩ hi;obtain⟨hun,o,ho,hpre⟩:=mem_ready.1 hi;have hilt:i<ops.size:=(Zk.1 ho).1;have hin:i<ds.length:=by rw[<-G.size];exact hilt
    have hil:i<l.size:=by omega
    have hun2:l.getD i false=false:=by
      cases h:l.getD i false with
      |false=>rfl
      |true=>simp[hil]at h hun;rw[h]at hun;cases hun
    have hcl2:∀(k:Nat) (o':Oper),(l.setIfInBounds i true).getD k false=true->ops[k]?=some o'->∀e∈o'.after,Region.binds .any e=true->(l.setIfInBounds i true).getD e.on false=true:=fun k o' hk ho' e he hb=>by
      refine(Zam hil).mpr (.inr ?_);rcases Zag hk with h|h
      · subst h;rw[ho]at ho';obtain rfl:=Option.some.inj ho';exact hpre e he hb
      · exact hcl k o' h ho' e he hb
    have hls2:(l.setIfInBounds i true).size=ds.length:=by rw[ZQ];exact hls
    refine ZeG ho (G.guard i o ho) ?_;by_cases hip:i=p
    · subst hip;rcases hV with⟨hnl,hIw,hF⟩|⟨hnl,_⟩
      · have hall:∀k,k<ds.length->k≠i->k∉S->l.getD k false=true:=fun k hk hkp hkS=>Za8 hcl 12 i k (G.last k hk hkp hkS) (fun o' ho' e he hb=>by
          rw[ho]at ho';obtain rfl:=Option.some.inj ho';exact hpre e he hb)
        refine hstore o ho a w hIw hAD (fun k hk hkp hkS=>hF k hk hkp (hall k hk hkp hkS)) _ fun w' hT hbw' hkeep=> ?_;refine⟨hls2,hAD,hasz,hadf,hcl2,hbw',.inr ⟨(Zam hil).mpr (.inl rfl),hT,fun k hk hkp hkl=> ?_⟩⟩;have hf:=hF k hk hkp ((Zag hkl).resolve_left hkp);by_cases hkS:k∈R
        · exact⟨w',hkeep k hkS _ hf,fun _=>rfl⟩
        · exact⟨w,hf,fun h=>absurd h hkS⟩
      · rw[hun2]at hnl;cases hnl
    · obtain⟨hd,hdl⟩:=G.dst i o hip ho;have hdm:=Zc8 hin;have hdz:ds.getD i 0<a.tmps.size:=by
        rcases hsz _ hdm with h|h
        · rw[hasz];exact h
        · omega
      have hpl:∀b,l.getD p false=b->(l.setIfInBounds i true).getD p false=b:=fun b hb=>by
        cases h:(l.setIfInBounds i true).getD p false with
        | true =>
          rcases Zag h with h2|h2
          · exact absurd h2.symm hip
          · rw[<-hb,h2]
        | false =>
          cases b with
          |false=>rfl
          | true =>have:=(Zam (k:=p) hil).mpr (.inr hb);rw[h]at this;cases this
      have hsz2:∀v,(a.put (some (ds.getD i 0)) v).tmps.size=a0.tmps.size:=fun v=>by show(a.tmps.setIfInBounds _ _).size=_;rw[ZQ];exact hasz
      rcases hV with⟨hnl,hIw,hF⟩|⟨hnl,hT,hF⟩
      · have hdep:∀e∈o.after,Region.binds .any e=true->Φ e.on (a.eval (.tmp (ds.getD e.on 0))) w:=fun e he hb=>hF e.on (YI (G.back i o ho e he hb) hin) (fun h=>by
          have:=hpre e he hb;rw[h,hnl]at this;cases this) (hpre e he hb)
        have hnext:∀v w',Φ i v w'->Below w.heap.size w w'->(l.setIfInBounds i true).size=ds.length/\AtDoor a0 ds (a.put (some (ds.getD i 0)) v).eval/\(a.put (some (ds.getD i 0)) v).tmps.size=a0.tmps.size/\(a.put (some (ds.getD i 0)) v).defers=a0.defers/\
            (∀(k:Nat) (o':Oper),(l.setIfInBounds i true).getD k false=true->ops[k]?=some o'->∀e∈o'.after,Region.binds .any e=true->(l.setIfInBounds i true).getD e.on false=true)/\base<=w'.heap.size/\
            (((l.setIfInBounds i true).getD p false = false /\ I w' /\∀ k, k < ds.length -> k ≠ p -> (l.setIfInBounds i true).getD k false = true -> Φ k ((a.put (some (ds.getD i 0)) v).eval (.tmp (ds.getD k 0))) w') \/
             ((l.setIfInBounds i true).getD p false=true/\Θ (fun t=>(a.put (some (ds.getD i 0)) v).eval (.tmp t)) w'/\∀k,k<ds.length->k≠p->(l.setIfInBounds i true).getD k false=true->∃w'',Φ k ((a.put (some (ds.getD i 0)) v).eval (.tmp (ds.getD k 0))) w''/\(k∈R->w''=w'))):=fun v w' hphi hb=>by
          refine⟨hls2,hAD.put hdm v,hsz2 v,hadf,hcl2,ZK hbw hb.size,.inl ⟨hpl _ hnl,hI w w' hIw hb,fun k hk hkp hkl=> ?_⟩⟩;by_cases hki:k=i
          · subst hki;rw[ZaB _ _ _ hdz];exact hphi
          · rw[Zak _ _ _ _ (fun e=>hki (Zbo G.nodup hk hin e))];exact hΦ k _ _ _ (hF k hk hkp ((Zag hkl).resolve_left hki)) hb
        by_cases hiS:i∈S
        · obtain⟨v,w',hr,hphi,hbel⟩:=hside i o hiS ho a.eval w hbw hAD (fun e he hb _=>⟨w,hdep e he hb,fun _=>rfl⟩);unfold Oper.wp;rw[hr,Oper.upon_value,hd];exact hnext v w' hphi hbel
        · refine hstep i o hip hiS ho a w hIw hAD hdep _ fun v w' hphi hb=> ?_;rw[hd];exact hnext v w' hphi hb
      · have hall:∀k,k<ds.length->k≠p->k∉S->l.getD k false=true:=fun k hk hkp hkS=>by
          obtain⟨op,hop⟩:∃op,ops[p]?=some op:=⟨_,Array.getElem?_eq_getElem (by rw[G.size];exact G.lt)⟩;exact Za8 hcl 12 p k (G.last k hk hkp hkS) (fun o' ho' e he hb=>hcl p o' hnl ho' e he hb)
        have hiS:i∈S:=Classical.byContradiction fun h=>by have:=hall i hin hip h;rw[hun2]at this;cases this
        obtain⟨v,w',hr,hphi,hbel⟩:=hside i o hiS ho a.eval w hbw hAD (fun e he hb hep=>by have he2:=hpre e he hb;have hlt:=YI (G.back i o ho e he hb) hin;exact hF e.on hlt hep he2)
        unfold Oper.wp;rw[hr,Oper.upon_value,hd];refine⟨hls2,hAD.put hdm v,hsz2 v,hadf,hcl2,ZK hbw hbel.size,.inr ⟨hpl _ hnl,?_,fun k hk hkp hkl=> ?_⟩⟩
        · refine hΘb _ w w' (hΘ _ _ w (fun k hk hkp hkS=> ?_) hT) hbel;exact(Zak _ _ _ _ (fun e=>hkS (by rw[Zbo G.nodup hk hin e];exact hiS))).symm
        · by_cases hki:k=i
          · subst hki;rw[ZaB _ _ _ hdz];exact⟨w',hphi,fun _=>rfl⟩
          · rw[Zak _ _ _ _ (fun e=>hki (Zbo G.nodup hk hin e))];obtain⟨w1,h1,h2⟩:=hF k hk hkp ((Zag hkl).resolve_left hki);by_cases hkS:k∈R
            · obtain rfl:=h2 hkS;exact⟨w',hΦ k _ _ _ h1 hbel,fun _=>rfl⟩
            · exact⟨w1,h1,fun h=>absurd h hkS⟩
  · rintro l a w ⟨hls,hAD,hasz,hadf,hcl,hbw,hV⟩ hr;have hall:=Zcf (by rw[hls,G.size]) G.back hr;have hp:=hall p (by rw[G.size];exact G.lt);rcases hV with⟨hnl,_⟩|⟨_,hT,hF⟩
    · rw[hp]at hnl;cases hnl
    · rw[ZdB hAD hasz hadf];exact hend (fun t=>a.eval (.tmp t)) w hT fun k hk hkp=>hF k hk hkp (hall k (by rw[G.size];exact hk))
end
end Go.Proofs.YtfahabphncmbfaaGreatDoor
