import Derived.Test.YtlfekmbalgkmeaaGreatDoorZM7
import Derived.Test.YtlfekmbalgkmeaaGreatDoorZM9
import Derived.WalkMore
import Derived.Deep.Cut
import Derived.Test.YtlfekmbalgkmeaaGreatDoorZM2
set_option linter.unusedSimpArgs false
set_option linter.unnecessarySimpa false
set_option linter.unusedVariables false
set_option maxRecDepth 100000
set_option maxHeartbeats 16000000
namespace Go.Proofs.YtlfekmbalgkmeaaGreatDoor
open Go Go.RowKit
theorem fx_fn{P:Program}{Q:Exit->Act->World->Prop}{o:Oper}{a:Act}{w:World}{k:Nat}{Φ:Nat->Value->World->Prop}{K:Act->World->Prop}(hK: ∀v w',Φ k v w'->Below w.heap.size w w'->K (a.put o.dst v) w'){ρ:Operand->Value}(hρ:a.eval=ρ)(x:Operand)(f:FuncId)(cs:Array Value)(xs:Array Operand)(tys:Array TypeId)(vs:Array Value)
  (ho:o.op= .call {callee:=.value x,args:=xs,argTypes:=tys}) (hx:ρ x= .func (.func f) #[] cs) (hxs:xs.map ρ=vs) (eg: ∀args w,(callFunc f args).run P w= .ok (.enter f args) w)
  (h:Calls P f (vs++cs) w fun e w'=> ∃v,e= .returned v/\Φ k v w'/\Below w.heap.size w w'):o.wp P a w K Q:=by
 have hr:(execOp ρ o).run P w= .ok (.enter f (vs++cs)) w:=by
  have:=eg (vs++cs) w;simp[execOp,ho,resolve,hx,hxs,invoke,Deferred.ofValue,this,go_sem]
 subst hρ;unfold Oper.wp;rw[hr,Oper.upon_enter];refine h.mono fun e w' ⟨v,he,hv,hb⟩=> ?_
 subst he;exact hK v w' hv hb
def OneS(s:Shp)(v:Value)(w:World):Prop:=∃ h,v= .slice (some ⟨h,0,none⟩) 1 1/\w.heap[h]? =some (.cells (shpC s).toArray 44 (0,0))
theorem OneS.below{s:Shp}{v:Value}{w w':World}(h:OneS s v w)(hb:Below w.heap.size w w'):OneS s v w':=by
 obtain⟨k,e,hk⟩:=h;exact⟨k,e,by rw[hb.block k (Array.getElem?_eq_some_iff.1 hk).1];exact hk⟩
theorem one_append{w:World}{base n c:Nat}{A:Option Addr}{v:Value}{es:List Shp}{s:Shp}(hn:es.length=n)(hO:OwnS w base (.slice A n c) es)(hE:OneS s v w)(hl:n<=900)(hb:base<=w.heap.size):
  ∃F d w',(Builtin.append_ #[25,25] 25 #[.slice A n c,v]).run Tryz.prog w= .ok (.slice F (n+1) d) w'/\OwnS w' base (.slice F (n+1) d) (es++ [s])/\Below base w w':=by
 obtain⟨h,rfl,hh⟩:=hE;obtain⟨i0,hi0,hz0,hz1,hz2⟩:=shape_info;subst hn;obtain⟨g,cap,w',hr,how,hg,hat,hgl⟩:=run_append_lies (P:=Tryz.prog) w 25 25 base 44 i0 (.agg #[.int .i64 0,.int .i64 0,.int .i64 0,.int .i64 0,.int .i64 0]) 5 40 Tryz.underlying25 hi0 hz0 hz1 hz2 rfl (by decide) (.slice A es.length c) es.length (flatS es) hO
  ⟨h,0,none⟩ 1 1 (shpC s) rfl (fun j x hx=>World.news_of_block hh j x (by simpa using hx)) (fun u hu=>by rcases(by simpa[shpC]using hu:u= .int .i64 s.t\/u= .int .i64 s.l\/u= .int .i64 s.m\/u= .int .i64 s.d\/u= .int .i64 s.p)with rfl|rfl|rfl|rfl|rfl<;>rfl) (by omega) (by unfold maxLen;omega) (by omega) hb _ rfl
 refine⟨_,_,w',hr,?_,(Below.refl base w).grown hg hb (fun k hk=>(World.ownsRow.lt hO k hk).1)⟩
 unfold OwnS;rw[List.length_append,List.length_singleton,flatS_app];have e:flatS [s]=shpC s:=by simp[flatS]
 rw[e];exact how
theorem exec_append16{P:Program}{o:Oper}{ρ:Operand->Value}{w w':World}{v:Value}(s x:Operand)(t:TypeId)(vs vx:Value)(ho:o.op= .call {callee:=.builtin .append,args:=#[s,x],argTypes:=#[t,t]})(hs:ρ s=vs)(hx:ρ x=vx)
  (hr:(Builtin.append_ #[t,t] o.type #[vs,vx]).run P w= .ok v w'):(execOp ρ o).run P w= .ok (.value v) w':=by
 unfold execOp;simp only[ho,resolve,invoke,builtin,Sem.run_bind,Sem.run_pure,Result.andThen_ok,List.map_toArray,List.map_cons,List.map_nil,hs,hx,hr]
structure StF(w:World)(A:Option Addr)(n c:Nat)(es:List Shp)(p q g g2:Nat)(ord:List Nat)(P:List Int)(wr:World):Prop where
 bel:Below w.heap.size w wr
 bp:wr.cell? ⟨p,0,none⟩=some (.slice A n c)
 bq:wr.cell? ⟨q,0,none⟩=some (.slice (some ⟨g,0,none⟩) n n)
 at_:OwnI wr w.heap.size (.slice (some ⟨g,0,none⟩) n n) P
 od:OwnI wr w.heap.size (.slice (some ⟨g2,0,none⟩) n n) (nums ord)
 ne:p≠g/\q≠g/\g2≠g
section
variable {w wr w': World} {A: Option Addr} {n c p q g g2: Nat} {es: List Shp} {ord: List Nat} {P: List Int}
theorem StF.next(h:StF w A n c es p q g g2 ord P wr)(hb:Below wr.heap.size wr w'):StF w A n c es p q g g2 ord P w':=
 ⟨h.bel.trans (hb.mono h.bel.size),(hb.cell (World.block_lt_of_cell? _ _ h.bp)).trans h.bp,(hb.cell (World.block_lt_of_cell? _ _ h.bq)).trans h.bq,h.at_.below hb,h.od.below hb,h.ne⟩
theorem cell_setCell_ne{w:World}{b j:Nat}{v:Value}{k:Nat}(h:b≠k):(w.setCell ⟨k,j,none⟩ v).cell? ⟨b,0,none⟩=w.cell? ⟨b,0,none⟩:=
 World.cell?_of_block (w:=w) (heap_setCell_other _ _ _ _ h)
theorem StF.set(h:StF w A n c es p q g g2 ord P wr){j:Nat}(hj:j<P.length)(z:Int):StF w A n c es p q g g2 ord (P.set j z) (wr.setCell ⟨g,j,none⟩ (.int .i64 z)):=by
 have hg:=h.at_.blockC;obtain⟨_,_,hgB,_⟩:=hg;exact⟨h.bel.setCell (p:=⟨g,j,none⟩) hgB _,(cell_setCell_ne h.ne.1).trans h.bp,(cell_setCell_ne h.ne.2.1).trans h.bq,ownI_setC h.at_ hj z,own_farC h.od (fun e=>h.ne.2.2 (by simpa[Value.ownBlock]using e)) (fun k hk=>heap_setCell_other _ _ _ _ hk),h.ne⟩
theorem onc_any(k:Int)(wr:World)(hn:es.length=n)(hl:n<=800)(hp:wr.cell? ⟨p,0,none⟩=some (.slice A n c))(hS:Shps wr wr.heap.size A es){B m d:Nat}{G:Option Addr}(hq:wr.cell? ⟨q,0,none⟩=some (.slice G m d))(hm:P.length=m)(hm2:m<=1000)(hP:Ints wr wr.heap.size G P):
  Calls Tryz.prog 155 #[.int .i64 k,.pointer (some ⟨p,0,none⟩),.pointer (some ⟨q,0,none⟩)] wr fun e w'=> ∃A1 n1 c1,e= .returned (.slice A1 n1 c1)/\n1<=n/\(onP es P k).length=n1/\OwnS w' wr.heap.size (.slice A1 n1 c1) (onP es P k)/\Below wr.heap.size wr w':=by
 have C:=Lib.hid (on_n (c:=c) (d:=d) k wr hn hl hS hm hm2 hP);clear hn hl hS hm hm2 hP;go_enter Tryz.func155,Tryz.ntmps155;go_wp2_with fail;refine C.out.mono ?_
 rintro e w1 ⟨A1,n1,c1,rfl,h1,h2,h3,b⟩;have H:=Lib.hid (show n1<=n/\(onP es P k).length=n1/\OwnS w1 wr.heap.size (.slice A1 n1 c1) (onP es P k)/\Below wr.heap.size wr w1 from⟨h1,h2,h3,b⟩)
 clear h1 h2 h3 b;go_wp2;go_ret;exact⟨A1,n1,c1,rfl,H.out⟩
end
def PhiF(B:Nat)(A:Option Addr)(n c p q i j:Nat)(s:Shp)(L:List Shp)(bk off:Nat):Nat->Value->World->Prop
 |0,v,w=>v= .func (.func 155) #[] #[.pointer (some ⟨p,0,none⟩),.pointer (some ⟨q,0,none⟩)]
 |1,v,w=>v= .int .i64 j
 |2,v,w=> ∃A1 n1 c1,v= .slice A1 n1 c1/\n1<=n/\L.length=n1/\OwnS w B (.slice A1 n1 c1) L
 |3,v,w=>v= .slice (some ⟨bk,off,none⟩) n c
 |4,v,w=>v= .int .i64 i
 |5,v,w=>v= .pointer (some ⟨bk,off+i * 5,none⟩)
 |6,v,w=>v= .agg #[.int .i64 s.t,.int .i64 s.l,.int .i64 s.m,.int .i64 s.d,.int .i64 s.p]
 |7,v,w=>OneS s v w
 |_,_,_=>True
theorem phiF_below{B:Nat}{A:Option Addr}{n c p q i j:Nat}{s:Shp}{L:List Shp}{bk off:Nat}: ∀kq v w w',PhiF B A n c p q i j s L bk off kq v w->Below w.heap.size w w'->PhiF B A n c p q i j s L bk off kq v w':=by
 intro kq v w w' h hb
 match kq,h with
 |0,h=>exact h
 |1,h=>exact h
 |2,h=>exact(by obtain⟨A1,n1,c1,e,h1,h2,h3⟩:=h;exact⟨A1,n1,c1,e,h1,h2,h3.below hb⟩)
 |3,h=>exact h
 |4,h=>exact h
 |5,h=>exact h
 |6,h=>exact h
 |7,h=>exact h.below hb
 |kq+8,h=>exact trivial
def ThtF(B:Nat)(w4:World)(n:Nat)(s:Shp)(L:List Shp)(x:Bool)(t:Nat)(f:Nat->Value)(w:World):Prop:=
 8<=t/\t<=10/\Below B w4 w/\(t=8->(∃A1 n1 c1,f 29= .slice A1 n1 c1/\n1<=n/\L.length=n1/\OwnS w B (.slice A1 n1 c1) L)/\OneS s (f 34) w)/\(t=9-> ∃F n1 d,f 35= .slice F (n1+1) d/\n1<=n/\L.length=n1/\OwnS w B (.slice F (n1+1) d) (L++ [s]))/\(t=10->f 36= .bool x)
theorem fx_callT{P:Program}{Q:Exit->Act->World->Prop}{o:Oper}{a:Act}{w:World}{K:Act->World->Prop}{v:Value}{vs:Array Value}{f0:FuncId}(h:Calls P f0 vs w fun e w'=>e= .returned v/\Below w.heap.size w w')(xs:Array Operand)(tys:Array TypeId)
  (ho:o.op= .call {callee:=.value (.func f0),args:=xs,argTypes:=tys}) (hxs:xs.map a.eval=vs) (eg: ∀args w,(callFunc f0 args).run P w= .ok (.enter f0 args) w) (hK: ∀w',Below w.heap.size w w'->K (a.put o.dst v) w'):o.wp P a w K Q:=by
 have hr:(execOp a.eval o).run P w= .ok (.enter f0 vs) w:=by
  have:=eg vs w;simp[execOp,ho,resolve,hxs,invoke,Deferred.ofValue,Act.eval,this,go_sem]
 unfold Oper.wp;rw[hr,Oper.upon_enter];refine h.mono fun e w' ⟨he,hb⟩=> ?_
 subst he;exact hK w' hb
def plcE(R:Option (List Int)):Int:=if R=none then 161 else 0
def plcL(R:Option (List Int)):List Int:=R.getD []
section
variable {A: Option Addr} {n c: Nat} {es: List Shp}
theorem fit_any(m:Nat)(hm8:m<=8)(wf:World)(hT:DTab wf)(hn:es.length=n)(hl:n<=8)(hS:Shps wf wf.heap.size A es)(R:Option (List Int))(hR:Plc es m (ordO (totE es) n) (List.replicate n (-1)) R)(hok:OnOk es m (ordO (totE es) n) (List.replicate n (-1))):
    Calls Tryz.prog 119 #[.slice A n c, .int .i64 m] wf fun e w'=> ∃A1 n1 c1,e= .returned (.tuple #[.slice A1 n1 c1, .int .i64 (plcE R)])/\(plcL R).length=n1/\OwnI w' wf.heap.size (.slice A1 n1 c1) (plcL R)/\Below wf.heap.size wf w':=by
  obtain⟨w1,hw1⟩: ∃w1,w1=(wf.alloc (.cells #[.slice A n c] 25)).alloc (.cells #[.int .i64 (-1)] 3):=⟨_,rfl⟩;have hb1:Below wf.heap.size wf w1:=by rw[hw1];exact((Below.refl _ _).alloc (Nat.le_refl _) _).alloc (by simp) _
  have hs1:w1.heap.size=wf.heap.size+2:=by rw[hw1];simp
  have hr1:RowV wf.heap.size 25 [.slice A n c] w1:=by rw[hw1];exact(RowV.new wf _ _).alloc _
  have hr2:RowV (wf.heap.size+1) 3 [.int .i64 (-1)] w1:=by
    rw[hw1];have:=RowV.new (wf.alloc (.cells #[.slice A n c] 25)) 3 [.int .i64 (-1)]
    simpa using this
  have KR:=Lib.hid (repeat_any (-1) (wf.heap.size+1) n w1 (by omega) (by omega) (hr2.cell (j:=0) rfl))
  have KO:=Lib.hid (fun W (b:Below wf.heap.size wf W)=>order_any (c:=c) W hn (by omega) (hS.via b))
  have KS:=Lib.hid (fun W (b:Below wf.heap.size wf W)=>(hS.via b:Shps W W.heap.size A es))
  have KT:=Lib.hid (fun W (b:Below wf.heap.size wf W)=>(hT.via b:DTab W))
  have HW:=Lib.hid hw1;have HB1:=Lib.hid hb1;have HS1:=Lib.hid hs1;have HR1:=Lib.hid hr1;have HN:=Lib.hid hn;have HOK:=Lib.hid hok;have HR:=Lib.hid hR;clear hw1 hb1 hs1 hr1 hr2 hT hS hn hok hR;go_enter Tryz.func119,Tryz.ntmps119;go_wp2_with fail
  go_step3
  go_wp2_with fail;rw[<-HW.out]
  refine KR.out.mono ?_
  rintro e w2 ⟨g,rfl,ho,b⟩;have HB2:=Lib.hid (HB1.out.trans (b.mono HB1.out.size));have HO2:=Lib.hid (ho.down (Nat.le_trans HB1.out.size (Nat.le_refl _)));have HG2:Hid (w1.heap.size<=g):=Lib.hid (by obtain⟨_,_,h,_⟩:=ho.blockC;exact h)
  have HR2:=Lib.hid (HR1.out.below b HR1.out.lt);clear ho b;go_wp2_with fail;obtain⟨w3,hw3⟩: ∃w3,w3=w2.alloc (.cells #[.slice (some ⟨g,0,none⟩) n n] 40):=⟨_,rfl⟩;have hb3:Below w2.heap.size w2 w3:=by rw[hw3];exact below_alloc _
  have HQ3:Hid (RowV w2.heap.size 40 [.slice (some ⟨g,0,none⟩) n n] w3):=Lib.hid (by rw[hw3];exact RowV.new w2 _ _)
  have HP3:=Lib.hid (HR2.out.below hb3 HR2.out.lt);have HB3:=Lib.hid (HB2.out.trans (hb3.mono HB2.out.size));have HO3:=Lib.hid (HO2.out.below hb3);have HGL:Hid (g<w2.heap.size):=Lib.hid (by obtain⟨_,h,_⟩:=HO2.out.blockC;exact(Array.getElem?_eq_some_iff.1 h).1)
  rw[<-hw3];have c0:=HP3.out.cell (j:=0) rfl;clear hw3 hb3
  go_step3
  go_wp2_with fail;refine(KO.out _ HB3.out).mono ?_
  rintro e w4 ⟨g2,rfl,ho,b⟩;have HST:Hid (StF wf A n c es wf.heap.size w2.heap.size g g2 (ordO (totE es) n) (List.replicate n (-1)) w4):=Lib.hid (by
    have h1:=HP3.out.below b HP3.out.lt;have h2:=HQ3.out.below b HQ3.out.lt;obtain⟨_,_,h3,_⟩:=ho.blockC;refine⟨HB3.out.trans (b.mono HB3.out.size),h1.cell (j:=0) rfl,h2.cell (j:=0) rfl,HO3.out.below b,ho.down HB3.out.size,?_,?_,?_⟩
    · have:=HG2.out;have:=HS1.out;omega
    · have:=HGL.out;omega
    · have:=HGL.out;have:=HQ3.out.lt;omega)
  have HPL:Hid (wf.heap.size<w2.heap.size):=Lib.hid (by have:=HG2.out;have:=HS1.out;have:=HGL.out;omega)
  obtain⟨ord,hord⟩: ∃o,o=ordO (totE es) n:=⟨_,rfl⟩;have HORD:Hid (ord.length=n/\ ∀i∈ord,i<n):=Lib.hid (by rw[hord];exact⟨ordO_len n,fun i hi=>ordO_mem.mp hi⟩)
  rw[<-hord]at HST HOK HR;clear ho b c0 KR KO HO2 HO3 HB1 HB2 HB3 HR1 HR2 HP3 HQ3 HS1 HG2 HGL hord HW;go_wp2;go_loopw [19] (fun v wr=> ∃(k:Nat) (P:List Int),k<=n/\v= .int .i64 k/\Hid (StF wf A n c es wf.heap.size w2.heap.size g g2 ord P wr)/\Hid (OnOk es m (ord.drop k) P)/\Hid (Plc es m (ord.drop k) P R)) (fun v _=>n - (intOf v).toNat)
  case atStart=>exact⟨0,_,Nat.zero_le _,rfl,HST,HOK,HR⟩
  case round=>
    clear HST HOK HR;obtain⟨k,P,hk,rfl,HST,HOK,HR⟩:=hrel;have p0:=HST.out.bp;have p1:=HST.out.bq
    by_cases hlt:k<n
    · obtain⟨i,hi⟩: ∃i,ord[k]? =some i:=⟨_,List.getElem?_eq_getElem (by have:=HORD.out.1;omega)⟩
      have hin:i<n:=HORD.out.2 i (List.mem_of_getElem? hi)
      have HDR:Hid (ord.drop k=i::ord.drop (k+1)):=Lib.hid (by
        have hl:=(List.getElem?_eq_some_iff.mp hi).1
        rw[List.drop_eq_getElem_cons hl,(List.getElem?_eq_some_iff.mp hi).2])
      rw[HDR.out]at HOK HR;have d0:=own_cell16 HST.out.od (j:=k) (z:=(i:Int)) (by unfold nums;rw[List.getElem?_map,hi];rfl)
      obtain⟨s,hs⟩: ∃s,es[i]? =some s:=⟨_,List.getElem?_eq_getElem (by have:=HN.out;omega)⟩
      have HSI:=Lib.hid hs;clear hi hs;go_wp2;go_loopw [24] (fun v wi=> ∃j:Nat,j<=m/\v= .int .i64 j/\Hid (StF wf A n c es wf.heap.size w2.heap.size g g2 ord P wi)/\Hid (∀cc,cc<j-> ¬FitP es P i cc)) (fun v _=>m - (intOf v).toNat)
      case atStart=>exact⟨0,Nat.zero_le _,rfl,HST,Lib.hid (fun cc h=>by omega)⟩
      case round=>
        clear HST p0 p1 d0;obtain⟨j,hj,rfl,HST,HNO⟩:=hrel
        by_cases hlt2:j<m
        · obtain⟨bk,off,rfl,hbk,hc⟩:=(KS.out wr HST.out.bel) (by have:=HN.out;omega)
          have hcs:=hc i s HSI.out;obtain⟨x,hx⟩:=existsB (FitE (onP es P (j:Int)++ [s]));have HXP:Hid (x=true↔FitP es P i j):=Lib.hid (hx.trans ⟨fun h=>⟨s,HSI.out,h⟩,fun⟨s',h1,h2⟩=>by rw[HSI.out]at h1;rw[Option.some.inj h1];exact h2⟩)
          have HX:=Lib.hid hx;have HIN:=Lib.hid hin;have HNN:=Lib.hid hl;have HLT:=Lib.hid hlt;have HJ:=Lib.hid hlt2;go_upto_region 9 with fail;obtain⟨w4,hw4⟩: ∃w4,w4=wr:=⟨_,rfl⟩;rw[<-hw4];rw[<-hw4]at HST hbk hcs;clear hw4 hc hx;have HPW:Hid (wf.heap.size<w4.heap.size):=Lib.hid (World.block_lt_of_cell? _ _ HST.out.bp)
          have HBP:=Lib.hid HST.out.bp;have KO:=Lib.hid (fun W (b:Below w4.heap.size w4 W)=>onc_any (c:=c) (j:Int) W HN.out (by have:=HNN.out;omega) ((b.cell (p:=⟨wf.heap.size,0,none⟩) HPW.out).trans HST.out.bp) (KS.out W (HST.out.bel.trans (b.mono HST.out.bel.size))) (B:=0) ((HST.out.next b).bq) HST.out.at_.len_eq (by have:=HNN.out;omega) (HST.out.next b).at_.ints)
          have HCE:=Lib.hid (fun W (b:Below w4.heap.size w4 W)=>(show W.cell? ⟨bk,off+i * 5,none⟩=some (.int .i64 s.t)/\W.cell? ⟨bk,off+i * 5+1,none⟩=some (.int .i64 s.l)/\W.cell? ⟨bk,off+i * 5+2,none⟩=some (.int .i64 s.m)/\W.cell? ⟨bk,off+i * 5+3,none⟩=some (.int .i64 s.d)/\W.cell? ⟨bk,off+i * 5+4,none⟩=some (.int .i64 s.p)from⟨(b.cell (p:=⟨bk,off+i * 5,none⟩) hbk).trans hcs.1.1,(b.cell (p:=⟨bk,off+i * 5+1,none⟩) hbk).trans hcs.1.2,(b.cell (p:=⟨bk,off+i * 5+2,none⟩) hbk).trans hcs.2.1,(b.cell (p:=⟨bk,off+i * 5+3,none⟩) hbk).trans hcs.2.2.1,(b.cell (p:=⟨bk,off+i * 5+4,none⟩) hbk).trans hcs.2.2.2⟩))
          have KF:=Lib.hid (fun(F:Option Addr) (n1 d:Nat) W (b:Below w4.heap.size w4 W) (h1:n1<=n) (h2:(onP es P (j:Int)++ [s]).length=n1+1) (h3:Shps W W.heap.size F (onP es P (j:Int)++ [s]))=>efits_any (c:=d) x HX.out W (KT.out W (HST.out.bel.trans (b.mono HST.out.bel.size))) h2 (by have:=HNN.out;omega) h3)
          clear hbk hcs hin hlt hlt2;refine wp_region_tail 8 [27,28,29,30,31,32,33,34,35,36] [] (by kernel_rfl) (by kernel_rfl) (by intro d hd;simp at hd⊢;omega) (fun z=>Below w4.heap.size w4 z) (PhiF w4.heap.size (some ⟨bk,off,none⟩) n c wf.heap.size w2.heap.size i j s (onP es P (j:Int)) bk off) (fun _ _=>True) (ThtF w4.heap.size w4 n s (onP es P (j:Int)) x)
            (fun z z' h hb=>h.trans (hb.mono h.size)) phiF_below ((Below.refl _ _).drew) ?hstep ?hloose ?hmid ?htail ?hcon ?hend
          case hstep=>
            intro kq o hkm hkF ho a1 w hI hA hd K hK;obtain⟨ρ,hρ⟩: ∃ρ,a1.eval=ρ:=⟨_,rfl⟩;rw[hρ]at hA hd
            match kq,hkm,hkF,ho with
            | 0, _, _, ho =>
              have hoo:=Option.some.inj ho;subst hoo;exact fx_val hK hρ (.func (.func 155) #[] #[.pointer (some ⟨wf.heap.size,0,none⟩), .pointer (some ⟨w2.heap.size,0,none⟩)]) (by have h:=hA.tmp 7 (by decide);simp[execOp,h,go_sem]) rfl
            | 1, _, _, ho =>
              have hoo:=Option.some.inj ho;subst hoo;exact fx_val hK hρ (.int .i64 j) (by have h:=hA.tmp 10 (by decide);simp[execOp,h,go_sem]) rfl
            | 2, _, _, ho =>
              have hoo:=Option.some.inj ho;subst hoo;have f0:ρ (.tmp 27)= .func (.func 155) #[] #[.pointer (some ⟨wf.heap.size,0,none⟩), .pointer (some ⟨w2.heap.size,0,none⟩)]:=hd ⟨0, .data⟩ (by simp) (by rfl) (by decide)
              have f1:ρ (.tmp 28)= .int .i64 j:=hd ⟨1, .data⟩ (by simp) (by rfl) (by decide)
              exact fx_fn hK hρ _ 155 #[.pointer (some ⟨wf.heap.size,0,none⟩), .pointer (some ⟨w2.heap.size,0,none⟩)] _ _ #[.int .i64 j] rfl f0 (by simp only[List.map_toArray,List.map_cons,List.map_nil,f1]) (eg_of Tryz.func155 (by kernel_rfl) rfl) ((KO.out w hI).mono fun e w' hh=>by
                obtain⟨A1,n1,c1,he,h1,h2,h3,hb⟩:=hh;exact⟨_,he,⟨A1,n1,c1,rfl,h1,h2,h3.down hI.size⟩,hb⟩)
            | 3, _, _, ho =>
              have hoo:=Option.some.inj ho;subst hoo;have h0:=(hI.cell (p:=⟨wf.heap.size,0,none⟩) HPW.out).trans HBP.out;exact fx_val hK hρ (.slice (some ⟨bk,off,none⟩) n c) (by have h:=hA.tmp 2 (by decide);simp[execOp,h,h0,go_sem]) rfl
            | 4, _, _, ho =>
              have hoo:=Option.some.inj ho;subst hoo;exact fx_val hK hρ (.int .i64 i) (by have h:=hA.tmp 9 (by decide);simp[execOp,h,go_sem]) rfl
            | 5, _, _, ho =>
              have hoo:=Option.some.inj ho;subst hoo;have f3:ρ (.tmp 30)= .slice (some ⟨bk,off,none⟩) n c:=hd ⟨3, .data⟩ (by simp) (by rfl) (by decide)
              have f4:ρ (.tmp 31)= .int .i64 i:=hd ⟨4, .data⟩ (by simp) (by rfl) (by decide)
              have hin:=HIN.out;exact fx_val hK hρ (.pointer (some ⟨bk,off+i * 5,none⟩)) (by simp[execOp,f3,f4,go_sem];omega) rfl
            | 6, _, _, ho =>
              have hoo:=Option.some.inj ho;subst hoo;have f5:ρ (.tmp 32)= .pointer (some ⟨bk,off+i * 5,none⟩):=hd ⟨5, .data⟩ (by simp) (by rfl) (by decide)
              obtain⟨d1,d2,d3,d4,d5⟩:=HCE.out w hI;exact fx_val hK hρ (.agg #[.int .i64 s.t, .int .i64 s.l, .int .i64 s.m, .int .i64 s.d, .int .i64 s.p]) (by simp[execOp,f5,d1,d2,d3,d4,d5,go_sem]) rfl
            | 7, _, _, ho =>
              have hoo:=Option.some.inj ho;subst hoo;have f6:ρ (.tmp 33)= .agg #[.int .i64 s.t, .int .i64 s.l, .int .i64 s.m, .int .i64 s.d, .int .i64 s.p]:=hd ⟨6, .data⟩ (by simp) (by rfl) (by decide)
              exact fx_make hK hρ (.slice (some ⟨w.heap.size,0,none⟩) 1 1) (w.alloc (.cells #[.int .i64 s.t, .int .i64 s.l, .int .i64 s.m, .int .i64 s.d, .int .i64 s.p] 44)) (by simp[execOp,f6,go_sem]) ⟨w.heap.size,rfl,heap_alloc_new w _⟩ (below_alloc _)
            |kq+8,h,_,_=>exact absurd h (by omega)
          case hloose=>
            intro kq o hkF ho ρ w hA hd;exact absurd hkF (by simp)
          case hmid=>
            intro vals w hI hF;exact⟨Nat.le_refl _,by decide,hI,fun _=>⟨hF 2 (by decide) (by decide),hF 7 (by decide) (by decide)⟩,fun h=>absurd h (by decide),fun h=>absurd h (by decide)⟩
          case htail=>
            intro t o htm ho a1 w hA hT hL K hK;have htl:t<10:=(Array.getElem?_eq_some_iff.1 ho).1
            obtain⟨ρ,hρ⟩: ∃ρ,a1.eval=ρ:=⟨_,rfl⟩;rw[hρ]at hA
            try rw[hρ]at hL
            obtain rfl|rfl:t=8\/t=9:=by omega
            · have hoo:=Option.some.inj ho;subst hoo;obtain⟨t1,t2,hb,h8,h9,h10⟩:=hT;simp only[hρ]at h8 h9 h10;obtain⟨⟨A1,n1,c1,e1,hn1,hL,hO⟩,hE⟩:=h8 (by first|rfl|trivial)
              obtain⟨F,d,w',hr,ho',hb'⟩:=one_append hL hO hE (by have:=HNN.out;omega) hb.size
              unfold Oper.wp;rw[show(execOp a1.eval _).run Tryz.prog w= .ok (.value (.slice F (n1+1) d)) w' from by rw[hρ];exact exec_append16 (.tmp 29) (.tmp 34) 25 _ _ rfl e1 rfl hr,Oper.upon_value]
              refine hK _ _ ⟨by decide,by decide,hb.trans hb',fun h=>absurd h (by decide),fun _=>⟨F,n1,d,?_,hn1,hL,ho'⟩,fun h=>absurd h (by decide)⟩
              simp
            · have hoo:=Option.some.inj ho;subst hoo;obtain⟨t1,t2,hb,h8,h9,h10⟩:=hT;simp only[hρ]at h8 h9 h10;obtain⟨F,n1,d,e1,hn1,hL,hO⟩:=h9 (by first|rfl|trivial)
              refine fx_callT (KF.out F n1 d w hb hn1 (by rw[List.length_append,hL];rfl) hO.shps) _ _ rfl (by rw[hρ];simp only[List.map_toArray,List.map_cons,List.map_nil,e1]) (eg_of Tryz.func73 (by kernel_rfl) rfl) fun w' hb'=> ?_
              refine hK _ _ ⟨by decide,by decide,hb.trans (hb'.mono hb.size),fun h=>absurd h (by decide),fun h=>absurd h (by decide),fun _=> ?_⟩
              simp
          case hcon=>
            intro t f g w h hT;obtain⟨t1,t2,hb,h8,h9,h10⟩:=hT;refine⟨t1,t2,hb,fun e=> ?_,fun e=> ?_,fun e=> ?_⟩
            · have q2:=h 2 (by omega) (by simp)
              have q7:=h 7 (by omega) (by simp)
              simp only[List.getD_cons_zero,List.getD_cons_succ]at q2 q7;rw[<-q2,<-q7];exact h8 e
            · have q8:=h 8 (by omega) (by simp)
              simp only[List.getD_cons_zero,List.getD_cons_succ]at q8;rw[<-q8];exact h9 e
            · have q9:=h 9 (by omega) (by simp)
              simp only[List.getD_cons_zero,List.getD_cons_succ]at q9;rw[<-q9];exact h10 e
          case hend=>
            intro vals w3 hT;obtain⟨_,_,hb,_,_,h10⟩:=hT;have ex:=h10 rfl;have HS5:=Lib.hid (HST.out.next hb);clear hb;simp only[fillA,fillL,List.contains_cons,List.contains_nil,Nat.reduceBEq,Bool.or_false,Bool.false_or,Bool.or_true,Bool.true_or,cond_true,cond_false,Nat.zero_add,Nat.reduceAdd,ex];have p1:=HS5.out.bq;cases x with
            | true =>
              obtain⟨hR2,hOK2⟩:Plc es m (ord.drop (k+1)) (P.set i (j:Int)) R/\OnOk es m (ord.drop (k+1)) (P.set i (j:Int)):=by
                have hf:FitP es P i j:=HXP.out.mp (by simp)
                have h:=HR.out;refine⟨?_,HOK.out.next hf HJ.out⟩
                cases h with
                |full h2=>exact absurd hf (h2 j HJ.out)
                | next h2 hr =>
                  obtain rfl:=fstP_one h2 ⟨HJ.out,hf,HNO.out⟩;exact hr
              have HR2:=Lib.hid hR2;have HOK2:=Lib.hid hOK2;have HPI:Hid (i<P.length):=Lib.hid (by have:=HOK.out.len;have:=HN.out;have:=HIN.out;omega)
              obtain⟨zz,hzz⟩:=HS5.out.at_.cellC HPI.out;have hfz:=HS5.out.at_.frozenC i;have HS6:=Lib.hid (HS5.out.set HPI.out (j:Int));have hin:=HIN.out;have hlt:=HLT.out;clear hR2 hOK2;go_wp2;go_roundw
              case rel=>exact⟨k+1,_,by have:=HLT.out;omega,by go_num,HS6,HOK2,HR2⟩
              case measure=>simp[intOf];have:=HLT.out;omega
            | false =>
              have HNO2:Hid (∀cc,cc<j+1-> ¬FitP es P i cc):=Lib.hid (fun cc hcc=>by
                by_cases e:cc=j
                · rw[e];exact fun q=>by have:=HXP.out.mpr q;simp at this
                · exact HNO.out cc (by omega))
              have hj2:=HJ.out;go_wp2;go_roundw
              case rel=>exact⟨j+1,by have:=HJ.out;omega,by go_num,HS5,HNO2⟩
              case measure=>simp[intOf];have:=HJ.out;omega
        · obtain rfl:m=j:=by omega
          have hnone:R=none:=by
            have h:=HR.out;cases h with
            |full _=>rfl
            |next h2 _=>exact absurd h2.2.1 (HNO.out _ h2.1)
          subst hnone;have HB9:=Lib.hid HST.out.bel;go_wp2
          try rw[Exit.noGoto_ret]
          refine bodyPost_ret (v:= .tuple #[.slice none 0 0, .int .i64 161]) ?_ rfl ⟨none,0,0,rfl,rfl,⟨rfl, .inl ⟨rfl,rfl⟩⟩,HB9.out⟩
          simp[results,Tryz.results119,go_sem]
    · obtain rfl:n=k:=by omega
      have hsome:R=some P:=by
        have h:=HR.out;rw[List.drop_of_length_le (by rw[HORD.out.1];exact Nat.le_refl _)]at h
        cases h with
        |done _=>rfl
      subst hsome;have HF9:=Lib.hid (show P.length=n/\OwnI wr wf.heap.size (.slice (some ⟨g,0,none⟩) n n) P/\Below wf.heap.size wf wr from⟨HST.out.at_.len_eq,HST.out.at_,HST.out.bel⟩)
      go_wp2
      try rw[Exit.noGoto_ret]
      refine bodyPost_ret (v:= .tuple #[.slice (some ⟨g,0,none⟩) n n, .int .i64 0]) ?_ rfl ⟨some ⟨g,0,none⟩,n,n,rfl,HF9.out⟩
      simp[results,Tryz.results119,go_sem]
end
def ordP(es:List Shp):List Nat:=ordO (totE es) es.length
def PlcP(es:List Shp)(m:Nat)(R:Option (List Int)):Prop:=Plc es m (ordP es) (List.replicate es.length (-1)) R
theorem plcP_ok(es:List Shp)(m:Nat):OnOk es m (ordP es) (List.replicate es.length (-1)):=OnOk.start es m (ordO_perm es.length)
section
variable {A: Option Addr} {n c: Nat} {es: List Shp}
theorem place_yes(m:Nat)(hm8:m<=8)(w:World)(hT:DTab w)(hn:es.length=n)(hM:MayE es)(hS:Shps w w.heap.size A es)(R:Option (List Int))(hR:PlcP es m R):
  Calls Tryz.prog 94 #[.slice A n c,.int .i64 m] w fun e w'=> ∃A1 n1 c1,e= .returned (.tuple #[.slice A1 n1 c1,.int .i64 (plcE R)])/\(plcL R).length=n1/\OwnI w' w.heap.size (.slice A1 n1 c1) (plcL R)/\Below w.heap.size w w':=by
 have hl:=hM.1;have hok:=plcP_ok es m;unfold PlcP ordP at hR;unfold ordP at hok;rw[hn]at hR hok hl;have KC:=Lib.hid (echeck_any (c:=c) w hT hn (by omega) hS)
 rw[chkEd_ok hM]at KC;have KM:=Lib.hid (maybe_any (m:Int));rw[decide_eq_true (show 0<=(m:Int)/\(m:Int)<=8 by omega)]at KM
 have KF:=Lib.hid (fun W (b:Below w.heap.size w W)=>fit_any (c:=c) m hm8 W (hT.via b) hn hl (hS.via b) R hR hok)
 clear hT hn hM hS hR hok hl;go_enter Tryz.func94,Tryz.ntmps94;go_wp2_with fail;refine KC.out.mono ?_
 rintro e w1 ⟨rfl,b⟩;have HB:=Lib.hid b;clear b;go_wp2_with fail;refine(KM.out _).mono ?_
 rintro e w2 ⟨rfl,rfl⟩;go_wp2_with fail;refine(KF.out _ HB.out).mono ?_
 rintro e w3 ⟨A1,n1,c1,rfl,h1,h2,b⟩;have H:=Lib.hid (show(plcL R).length=n1/\OwnI w3 w.heap.size (.slice A1 n1 c1) (plcL R)/\Below w.heap.size w w3 from⟨h1,h2.down HB.out.size,HB.out.trans (b.mono HB.out.size)⟩)
 clear h1 h2 b;go_wp2;refine bodyPost_ret (v:=.tuple #[.slice A1 n1 c1,.int .i64 (plcE R)]) ?_ rfl ⟨A1,n1,c1,rfl,H.out⟩
 simp[results,Tryz.results94,go_sem]
theorem place_no(m:Int)(w:World)(hT:DTab w)(hn:es.length=n)(hl:n<=1000)(hS:Shps w w.heap.size A es)(hno: ¬(MayE es/\0<=m/\m<=8)):
  Calls Tryz.prog 94 #[.slice A n c,.int .i64 m] w fun e w'=>e= .returned (.tuple #[.slice none 0 0,.int .i64 160])/\Below w.heap.size w w':=by
 have KC:=Lib.hid (echeck_any (c:=c) w hT hn hl hS);have KM:=Lib.hid (maybe_any m)
 by_cases hM:MayE es
 ·rw [chkEd_ok hM] at KC
  have hm: ¬(0<=m/\m<=8):=fun q=>hno ⟨hM,q⟩
  rw[decide_eq_false hm]at KM;clear hT hn hM hS hno hm;go_enter Tryz.func94,Tryz.ntmps94;go_wp2_with fail;refine KC.out.mono ?_
  rintro e w1 ⟨rfl,b⟩;have HB:=Lib.hid b;clear b;go_wp2_with fail;refine(KM.out _).mono ?_
  rintro e w2 ⟨rfl,rfl⟩;go_wp2;refine bodyPost_ret (v:=.tuple #[.slice none 0 0,.int .i64 160]) ?_ rfl ⟨rfl,HB.out⟩
  simp[results,Tryz.results94,go_sem]
 ·rw [chkEd_no hM] at KC
  clear hT hn hM hS hno;go_enter Tryz.func94,Tryz.ntmps94;go_wp2_with fail;refine KC.out.mono ?_
  rintro e w1 ⟨rfl,b⟩;have HB:=Lib.hid b;clear b;go_wp2;refine bodyPost_ret (v:=.tuple #[.slice none 0 0,.int .i64 160]) ?_ rfl ⟨rfl,HB.out⟩
  simp[results,Tryz.results94,go_sem]
def PlcA(es:List Shp)(m:Int)(L:List Int)(e:Int):Prop:=(¬(MayE es/\0<=m/\m<=8)/\L= []/\e=160)\/(MayE es/\0<=m/\m<=8/\ ∃R,PlcP es m.toNat R/\L=plcL R/\e=plcE R)
theorem plcA_is(es:List Shp)(m:Int): ∃L e,PlcA es m L e:=by
 by_cases h:MayE es/\0<=m/\m<=8
 ·obtain ⟨R,hR⟩:=plc_is es m.toNat (ordP es) (List.replicate es.length (-1))
  exact⟨_,_,.inr ⟨h.1,h.2.1,h.2.2,R,hR,rfl,rfl⟩⟩
 ·exact⟨_,_,.inl ⟨h,rfl,rfl⟩⟩
theorem place_any(m:Int){L:List Int}{er:Int}(hP:PlcA es m L er)(w:World)(hT:DTab w)(hn:es.length=n)(hl:n<=1000)(hS:Shps w w.heap.size A es):
  Calls Tryz.prog 94 #[.slice A n c,.int .i64 m] w fun e w'=> ∃A1 n1 c1,e= .returned (.tuple #[.slice A1 n1 c1,.int .i64 er])/\L.length=n1/\OwnI w' w.heap.size (.slice A1 n1 c1) L/\Below w.heap.size w w':=by
 rcases hP with⟨hno,rfl,rfl⟩|⟨hM,h0,h8,R,hR,rfl,rfl⟩
 ·refine (place_no (c:=c) m w hT hn hl hS hno).mono ?_
  rintro e w' ⟨rfl,b⟩;exact⟨none,0,0,rfl,rfl,⟨rfl,.inl ⟨rfl,rfl⟩⟩,b⟩
 ·have h:=place_yes (c:=c) m.toNat (by omega) w hT hn hM hS R hR
  rw[Int.toNat_of_nonneg h0]at h;exact h
theorem PlcA.zero{m:Int}{L:List Int}{e:Int}(h:PlcA es m L e)(h0:e=0):MayE es/\0<=m/\m<=8/\PlcP es m.toNat (some L)/\RightP es L m:=by
  rcases h with⟨_,_,rfl⟩|⟨hM,h1,h8,R,hR,rfl,rfl⟩
  · cases h0
  · cases R with
    |none=>cases h0
    | some F =>
      refine⟨hM,h1,h8,hR,?_⟩
      have:=Plc.right hR (by omega) rfl (plcP_ok es m.toNat)
      rw[Int.toNat_of_nonneg h1]at this;exact this
theorem PlcA.non{m:Int}{L:List Int}{e:Int}(h:PlcA es m L e)(h0:e≠0):L= []/\(e=160\/e=161):=by
 rcases h with⟨_,rfl,rfl⟩|⟨hM,h1,h8,R,hR,rfl,rfl⟩
 ·exact⟨rfl,.inl rfl⟩
 ·cases R with
  |none=>exact⟨rfl,.inr rfl⟩
  |some F=>exact absurd rfl h0
theorem PlcA.more{m:Int}{L:List Int}(h:PlcA es m L 0)(h8:m<8):PlcA es (m+1) L 0:=by
 obtain⟨hM,h0,_,hP,_⟩:=h.zero rfl;refine .inr ⟨hM,by omega,by omega,some L,?_,rfl,rfl⟩
 have e:(m+1).toNat=m.toNat+1:=by omega
 rw[e];exact Plc.more hP rfl
theorem PlcA.enough{m:Int}{L:List Int}{e:Int}(h:PlcA es m L e)(hM:MayE es)(h0:0<=m)(h8:m<=8):(e=0\/e=161)/\((es.length:Int)<=m->e=0):=by
  rcases h with⟨hno,_,_⟩|⟨_,_,_,R,hR,rfl,rfl⟩
  · exact absurd ⟨hM,h0,h8⟩ hno
  · cases R with
    | none =>
      refine⟨.inr rfl,fun hle=> ?_⟩
      refine absurd rfl (Plc.enough hR hM.2 (plcP_ok es m.toNat) 0 (fun a ha=>by rw[(List.mem_replicate.mp ha).2];omega) ?_)
      unfold ordP;rw[ordO_len];omega
    |some F=>exact⟨.inl rfl,fun _=>rfl⟩
theorem PlcA.one{L:List Int}{e:Int}(h:PlcA es 1 L e)(hM:MayE es):(e=0↔FitE es)/\ ∀a∈L,a=0:=by
 by_cases h0:e=0
 ·obtain ⟨_,_,_,_,hR⟩:=h.zero h0
  exact⟨⟨fun _=>hR.one,fun _=>h0⟩,fun a ha=>by have:=hR.at_ a ha;omega⟩
 ·obtain ⟨rfl,_⟩:=h.non h0
  refine⟨⟨fun q=>absurd q h0,fun hF=> ?_⟩,fun a ha=>by cases ha⟩
  rcases h with⟨hno,_,_⟩|⟨_,_,_,R,hR,_,rfl⟩
  ·exact absurd ⟨hM,by decide,by decide⟩ hno
  ·cases R with
   |none=>exact absurd rfl (Plc.one hR hF (plcP_ok es 1))
   |some F=>rfl
end
end Go.Proofs.YtlfekmbalgkmeaaGreatDoor
namespace Go.Proofs.YtlfekmbalgkmeaaGreatDoor
open Go.RowKit
theorem mem_take_snoc{α:Type} [DecidableEq α]{l:List α}{j:Nat}{e x:α}(h:l[j]? =some e):x∈l.take (j+1)↔x∈l.take j\/x=e:=by
 rw[List.take_add_one,h];simp
theorem has_any(A:Option Addr)(c:Nat)(zs:List Int)(x:Int)(w:World)(len:Nat)(hn:zs.length=len)(hl:len<=1000)(hI:Ints w w.heap.size A zs):
  Calls Tryz.prog 26 #[.slice A len c,.int .i64 x] w fun e w'=>e= .returned (.bool (decide (x∈zs)))/\w=w':=by
 have HI:=Lib.hid hI;have HM:=Lib.hid hn;obtain⟨r,hr⟩: ∃r,r=decide (x∈zs):=⟨_,rfl⟩;rw[<-hr];have HR:=Lib.hid hr;clear hI hn hr;go_enter Tryz.func26,Tryz.ntmps26;go_wp2;go_loop [5] (fun i=> ∃j:Nat,j<=len/\i= .int .i64 j/\Hid (x∉zs.take j)) (fun i=>len - (intOf i).toNat)
 case atStart=>exact⟨0,Nat.zero_le _,rfl,Lib.hid (by simp)⟩
 case round=>
  obtain⟨j,hj,rfl,HN⟩:=hrel
  by_cases hlt:j<len
  ·obtain ⟨bk,o,z,rfl,hbg,hzj,hc1⟩:=HI.out.at_ (k:=j) (by rw [HM.out]; exact hlt)
   have HS:=Lib.hid (mem_take_snoc (x:=x) hzj);have HZJ:=Lib.hid hzj;clear hzj
   by_cases h1:z=x
   ·have hin: x ∈ zs:=by subst h1; exact List.mem_of_getElem? HZJ.out
    have HIN:=Lib.hid (decide_eq_true hin);clear hin;go_wp2;go_ret;exact⟨by rw[HR.out,HIN.out];rfl,rfl⟩
   ·have h3: (z == x) = false:=by simpa using h1
    go_wp2;go_round
    case rel=>exact⟨j+1,by omega,by go_num,Lib.hid (by rw[HS.out];rintro(h|h);exact HN.out h;exact h1 h.symm)⟩
    case measure=>simp[intOf];omega
  ·obtain rfl: j = len:=by omega
   have hno:x∉zs:=by
    have h:=HN.out
    rwa [List.take_of_length_le (by rw[HM.out];omega)]at h
   have HNO:=Lib.hid (decide_eq_false hno);clear hno;go_wp2;go_ret;exact⟨by rw[HR.out,HNO.out];rfl,rfl⟩
end Go.Proofs.YtlfekmbalgkmeaaGreatDoor
