import Derived.Test.YtlfekmbalgkmeaaGreatDoorZM31
import Derived.Test.YtlfekmbalgkmeaaGreatDoorZM32
import Derived.KernelRfl
import Derived.Test.YtlfekmbalgkmeaaGreatDoorZM12
import Derived.Test.YtlfekmbalgkmeaaGreatDoorZM37
set_option linter.unusedSimpArgs false
set_option linter.unnecessarySimpa false
set_option linter.unusedVariables false
set_option maxRecDepth 100000
set_option maxHeartbeats 8000000
namespace Go.Proofs.YtlfekmbalgkmeaaGreatDoor
open Go Go.RowKit
theorem desc_info17:(Tryz.prog.info? 57).map (fun i=>(i.zero,i.size,i.bytes))=some (some (.agg #[.int .i64 0,.int .i64 0,.slice none 0 0,.slice none 0 0,.slice none 0 0,.slice none 0 0]),6,112):=by kernel_rfl
theorem desc_info: ∃i,Tryz.prog.info? 57=some i/\i.zero=some (.agg #[.int .i64 0, .int .i64 0, .slice none 0 0, .slice none 0 0, .slice none 0 0, .slice none 0 0])/\i.size=6/\i.bytes=112:=by
  have h:=desc_info17;cases hi:Tryz.prog.info? 57 with
  |none=>rw[hi]at h;cases h
  | some i =>
    rw[hi]at h;simp at h;exact⟨i,rfl,h.1,h.2.1,h.2.2⟩
def OwnD1(w:World)(B:Nat)(x:List Value)(T:Task):Prop:=
 ∃u1 u2 u3 u4,x= [.int .i64 T.period,.int .i64 T.deadline,u1,u2,u3,u4]/\OwnT 62 w B u1 T.parts/\OwnE w B u2 T.edges/\OwnT 156 w B u3 T.futures/\OwnB w B u4 T.bars
theorem OwnD1.below{w w':World}{B:Nat}{x:List Value}{T:Task}(h:OwnD1 w B x T)(hb:Below w.heap.size w w'):OwnD1 w' B x T:=by
 obtain⟨u1,u2,u3,u4,e,h1,h2,h3,h4⟩:=h;exact⟨u1,u2,u3,u4,e,h1.below hb,h2.below hb,h3.below hb,h4.below hb⟩
def OwnK(w:World)(B:Nat)(v:Value)(L:List (List Value)):Prop:=w.ownsRow B 57 6 v L.length L.flatten
theorem OwnD1.grown{w w':World}{B B2:Nat}{x:List Value}{T:Task}{v:Value}{L:List (List Value)}(h:OwnD1 w B x T)(hO:OwnK w B2 v L)(hg:w.grownBy w' v.ownBlock):OwnD1 w' B x T:=by
 obtain⟨u1,u2,u3,u4,e,h1,h2,h3,cs,q1,q2,q3⟩:=h;refine⟨u1,u2,u3,u4,e,own_grown h1 hg (fun g hv=>own_apart h1 hO (by decide) g hv),own_grown h2 hg (fun g hv=>own_apart h2 hO (by decide) g hv),own_grown h3 hg (fun g hv=>own_apart h3 hO (by decide) g hv),cs,q1,own_grown q2 hg (fun g hv=>own_apart q2 hO (by decide) g hv),fun k c b hc hb=> ?_⟩
 obtain⟨p1,p2⟩:=q3 k c b hc hb;exact⟨own_grown p1 hg (fun g hv=>own_apart p1 hO (by decide) g hv),own_grown p2 hg (fun g hv=>own_apart p2 hO (by decide) g hv)⟩
theorem flat6: ∀{L:List (List Value)} {k:Nat} {x:List Value},(∀y∈L,y.length=6)->L[k]? =some x-> ∀j,j<6->L.flatten[k * 6+j]? =x[j]?
  | [],k,x,_,h,_,_=>by simp at h
  | y :: L, 0, x, hl, h, j, hj => by
    obtain rfl:y=x:=by simpa using h
    rw[List.flatten_cons,List.getElem?_append_left (by rw[hl y (by simp)];omega)]
    congr 1
    omega
  | y :: L, k + 1, x, hl, h, j, hj => by
    have ih:=flat6 (L:=L) (k:=k) (x:=x) (fun z hz=>hl z (List.mem_cons_of_mem _ hz)) (by simpa using h) j hj
    have hy:=hl y (by simp)
    rw[List.flatten_cons,List.getElem?_append_right (by omega),hy,show(k+1) * 6+j - 6=k * 6+j by omega]
    exact ih
theorem OwnK.isTs{w:World}{B:Nat}{v:Value}{L:List (List Value)}{Ts:List Task}(h:OwnK w B v L)(hT:DTab w)(hl:L.length=Ts.length)(hd: ∀(k:Nat) x T,L[k]? =some x->Ts[k]? =some T->OwnD1 w B x T)(hf: ∀T∈Ts,FewD T):
  ∃A d l,v= .slice A l.length d/\pairT l=Ts/\IsTs w A l/\(A=none->l.length=0/\d=0):=by
 have key: ∀k,k<Ts.length-> ∃s:Sh,∃x,L[k]? =some x/\x= [.int .i64 (Ts.getD k ⟨0,0,[],[],[],[]⟩).period,.int .i64 (Ts.getD k ⟨0,0,[],[],[],[]⟩).deadline,.slice s.P s.np s.pc,.slice s.E s.ne s.ec,.slice s.F s.nf s.fc,.slice s.R s.nr s.rc]/\IsD w s (Ts.getD k ⟨0,0,[],[],[],[]⟩):=by
  intro k hk;have hT1:Ts[k]? =some Ts[k]:=List.getElem?_eq_getElem hk
  have hx1:L[k]? =some L[k]:=List.getElem?_eq_getElem (by omega)
  have e0:Ts.getD k ⟨0,0,[],[],[],[]⟩=Ts[k]:=by rw[List.getD_eq_getElem?_getD,hT1];rfl
  obtain⟨u1,u2,u3,u4,e,h1,h2,h3,h4⟩:=hd k _ _ hx1 hT1;rw[e0];obtain⟨P,pc,rfl,t1,n1⟩:=h1.slice;obtain⟨E,ec,rfl,t2,n2⟩:=h2.slice';obtain⟨F,fc,rfl,t3,n3⟩:=h3.slice;have q2:=own_cap h2;have q3:=own_cap h3;obtain⟨R,rc,rfl,t4,n4⟩:=h4.slice;exact⟨⟨P,_,pc,E,_,ec,F,_,fc,R,_,rc⟩,_,hx1,e,⟨⟨rfl,rfl,rfl,rfl,t1,t2,t3,t4,n1,n2,n3,n4⟩,(hf _ (List.getElem_mem hk)).few,hT,q2,q3⟩⟩
 have h6: ∀y∈L,y.length=6:=fun y hy=>by
  obtain⟨k,hk,rfl⟩:=List.mem_iff_getElem.mp hy;obtain⟨s,x,hx,e,_⟩:=key k (by omega)
  rw[List.getElem?_eq_getElem hk]at hx
  obtain rfl:=Option.some.inj hx;rw[e];rfl
 obtain⟨f,hf2⟩: ∃f:Nat->Sh,∀k,k<Ts.length-> ∃x,L[k]? =some x/\x= [.int .i64 (Ts.getD k ⟨0,0,[],[],[],[]⟩).period,.int .i64 (Ts.getD k ⟨0,0,[],[],[],[]⟩).deadline,.slice (f k).P (f k).np (f k).pc,.slice (f k).E (f k).ne (f k).ec,.slice (f k).F (f k).nf (f k).fc,.slice (f k).R (f k).nr (f k).rc]/\IsD w (f k) (Ts.getD k ⟨0,0,[],[],[],[]⟩):=by
  classical
  refine⟨fun k=>if hk:k<Ts.length then(key k hk).choose else⟨none,0,0,none,0,0,none,0,0,none,0,0⟩,fun k hk=> ?_⟩
  simp only[dif_pos hk];exact(key k hk).choose_spec
 obtain⟨l,hle⟩: ∃l:List (Sh×Task),l=(List.range Ts.length).map fun k=>(f k,Ts.getD k ⟨0,0,[],[],[],[]⟩):=⟨_,rfl⟩
 have hll:l.length=Ts.length:=by rw[hle];simp
 have hat: ∀k x,l[k]? =some x->k<Ts.length/\x=(f k,Ts.getD k ⟨0,0,[],[],[],[]⟩):=fun k x hx=>by
  have hk:=(List.getElem?_eq_some_iff.mp hx).1
  rw[hll]at hk;rw[hle,List.getElem?_map,List.getElem?_range hk]at hx
  exact⟨hk,(Option.some.inj hx).symm⟩
 have hpair:pairT l=Ts:=by
  apply List.ext_getElem?
  intro k
  by_cases hk:k<Ts.length
  ·rw [hle]
   simp[pairT,hk,List.getD_eq_getElem?_getD]
  ·rw[List.getElem?_eq_none (by rw[pairT_len,hll];omega),List.getElem?_eq_none (by omega)]
 have heach: ∀x∈l,IsD w x.1 x.2:=fun x hx=>by
  obtain⟨k,hk,e⟩:=List.mem_iff_getElem.mp hx;obtain⟨q1,q2⟩:=hat k x (by rw[List.getElem?_eq_getElem hk,e])
  obtain⟨_,_,_,q3⟩:=hf2 k q1;rw[q2];exact q3
 rcases h.2 with⟨rfl,hn⟩|⟨g,cap,cur,rfl,hg,hgg,rest⟩
 ·have h0: l.length = 0:=by omega
  exact⟨none,0,l,by rw[h0],hpair,⟨fun hp=>by omega,heach⟩,fun _=>⟨h0,rfl⟩⟩
 ·refine ⟨some ⟨g,0,none⟩,cap,l,by rw [hll,hl],hpair,⟨fun hp => ⟨g,0,rfl,(Array.getElem?_eq_some_iff.1 hgg).1,fun k x hx => ?_⟩,heach⟩,fun e => by cases e⟩
  obtain⟨hk,e⟩:=hat k x hx;obtain⟨y,hy,e2,_⟩:=hf2 k hk;have hc: ∀j u,y[j]? =some u->j<6->w.cell? ⟨g,0+(k * 6+j),none⟩=some u:=fun j u hu hj=>by
   have:=h.cells (g:=g) rfl (k * 6+j) u (by rw[flat6 h6 hy j hj];exact hu)
   rw[addr_add]at this;exact this
  rw[e];simp only;rw[e2]at hc;simp only[Nat.zero_add]at hc⊢;exact⟨⟨hc 0 _ rfl (by omega),hc 1 _ rfl (by omega)⟩,hc 2 _ rfl (by omega),hc 3 _ rfl (by omega),hc 4 _ rfl (by omega),hc 5 _ rfl (by omega)⟩
theorem own_slice{w:World}{b:Nat}{e:TypeId}{s n:Nat}{v:Value}{xs:List Value}(h:w.ownsRow b e s v n xs): ∃F d,v= .slice F n d:=by
 rcases h.2 with⟨rfl,h0⟩|⟨g,cap,cur,rfl,_⟩
 ·exact⟨none,0,by rw[h0]⟩
 ·exact⟨_,_,rfl⟩
def InTs(w:World)(A:Option Addr)(l:List (Sh×Task)):Prop:=Tks w A l/\ ∀x∈l,InD w x.1 x.2
theorem InTs.via{w w':World}{A:Option Addr}{l:List (Sh×Task)}(h:InTs w A l)(hb:Below w.heap.size w w'):InTs w' A l:=⟨h.1.via hb,fun x hx=>⟨((h.2 x hx).t.below hb).more hb.size,(h.2 x hx).lE,(h.2 x hx).lF⟩⟩
theorem InTs.isTs{w:World}{A:Option Addr}{l:List (Sh×Task)}(h:InTs w A l)(hT:DTab w)(hf: ∀x∈l,FewD x.2):IsTs w A l:=⟨h.1,fun x hx=>(h.2 x hx).isD hT (hf x hx)⟩
theorem owns_ts{A:Option Addr}{n c:Nat}{l:List (Sh×Task)}(wf:World)(hn:l.length=n)(h12:n<=12)(h:IsTs wf A l)(hT:DTab wf)(hf: ∀x∈l,FewD x.2):
  Calls Tryz.prog 12 #[.slice A n c] wf fun e w'=> ∃F d l',e= .returned (.slice F n d)/\l'.length=n/\pairT l'=pairT l/\IsTs w' F l'/\(F=none->n=0/\d=0)/\Below wf.heap.size wf w':=by
 obtain⟨j0,hj0,hy0,hy1,hy2⟩:=desc_info;have HTs:=Lib.hid (fun W (b:Below wf.heap.size wf W)=>h.via b)
 have HTB:=Lib.hid (fun W (b:Below wf.heap.size wf W)=>DTab.via hT b)
 have HN:=Lib.hid hn;have HF:=Lib.hid hf;obtain⟨B,hB⟩: ∃B,B=wf.heap.size:=⟨_,rfl⟩;rw[<-hB]at HTs HTB⊢;have HBs:=Lib.hid hB;have O0:=Lib.hid (show OwnK (wf.alloc (.cells #[] 57)) B (.slice (some ⟨wf.heap.size,0,none⟩) 0 0) []from⟨rfl,.inr ⟨wf.heap.size,0,#[],rfl,by rw[hB];exact Nat.le_refl _,heap_alloc_new wf _,Nat.le_refl _,by simp[maxLen],rfl,rfl⟩⟩)
 have B0:=Lib.hid (show Below B wf (wf.alloc (.cells #[] 57))from by rw[hB];exact below_alloc _)
 clear hn h hT hf hB;go_enter Tryz.func12,Tryz.ntmps12;go_wp2;go_loopw [3,4] (fun v i wr=> ∃(j:Nat) (F:Option Addr) (d:Nat) (L:List (List Value)),j<=n/\i= .int .i64 j/\v= .slice F j d/\Hid (L.length=j)/\Hid (OwnK wr B (.slice F j d) L)/\Hid (∀(k:Nat) x T,L[k]? =some x->(pairT l)[k]? =some T->OwnD1 wr B x T)/\Hid (Below B wf wr)) (fun _ i _=>n - (intOf i).toNat)
 case atStart=>exact⟨0,_,0,[],Nat.zero_le _,rfl,rfl,Lib.hid rfl,O0,Lib.hid (fun k x T hx=>by simp at hx),B0⟩
 case round=>
  obtain⟨j,F,d,L,hj,rfl,rfl,HL,HO,HD,HB⟩:=hrel;clear O0 B0
  by_cases hlt:j<n
  ·have hts:=HTs.out wr HB.out
   obtain⟨b,off,P,np,pc,E,ne,ec,Fu,nf,fc,R,nr,rc,T,rfl,hbg,hek,c0,c1,c2,c3,c4,c5⟩:=hts.tks.at_ (k:=j) (by rw[HN.out];exact hlt)
   have hD:=hts.each _ (List.mem_of_getElem? hek)
   have KO:=Lib.hid (down_any ⟨P,np,pc,E,ne,ec,Fu,nf,fc,R,nr,rc⟩ T wr hD.few hD.t);have HT2:=Lib.hid (pairT_at hek);have hBw:B<=wr.heap.size:=by rw[HBs.out];exact HB.out.size
   unfold Sh.arg at KO;dsimp only at KO;obtain⟨per,hper⟩: ∃q,q=T.period:=⟨_,rfl⟩;obtain⟨dea,hdea⟩: ∃q,q=T.deadline:=⟨_,rfl⟩;rw[<-hper,<-hdea]at KO;rw[<-hper]at c0;rw[<-hdea]at c1;have HPD:=Lib.hid (And.intro hper hdea);clear hts hek hD hper hdea;go_wp2_with fail;refine KO.out.mono ?_
   rintro e w1 ⟨u1,u2,u3,u4,rfl,h1,h2,h3,h4,b1⟩;have HD1:=Lib.hid (show OwnD1 w1 B [.int .i64 per,.int .i64 dea,u1,u2,u3,u4] T from⟨u1,u2,u3,u4,by rw[HPD.out.1,HPD.out.2],own_less h1 hBw,own_less h2 hBw,own_less h3 hBw,h4.less hBw⟩)
   have HO1:=Lib.hid (show OwnK w1 B (.slice F j d) L from own_below HO.out b1)
   have HDs:=Lib.hid (show∀(k:Nat) x T,L[k]? =some x->(pairT l)[k]? =some T->OwnD1 w1 B x T from fun k x T hx hT=>(HD.out k x T hx hT).below b1)
   have HB1:=Lib.hid (HB.out.trans (b1.mono hBw));have hBw1:B<=w1.heap.size:=by rw[HBs.out];exact HB1.out.size
   obtain⟨P',pc',e1,_⟩:=h1.slice;obtain⟨E',ec',e2,_⟩:=h2.slice';obtain⟨F',fc',e3,_⟩:=h3.slice;obtain⟨R',rc',e4,_⟩:=h4.slice;subst e1 e2 e3 e4;obtain⟨n1,hn1⟩: ∃n1,n1=T.parts.length:=⟨_,rfl⟩;obtain⟨n2,hn2⟩: ∃n1,n1=T.edges.length:=⟨_,rfl⟩;obtain⟨n3,hn3⟩: ∃n1,n1=T.futures.length:=⟨_,rfl⟩;obtain⟨n4,hn4⟩: ∃n1,n1=T.bars.length:=⟨_,rfl⟩;rw[<-hn1,<-hn2,<-hn3,<-hn4]at HD1;rw[<-hn1,<-hn2,<-hn3,<-hn4];clear h1 h2 h3 h4 b1 KO c0 c1 c2 c3 c4 c5 hn1 hn2 hn3 hn4;have hlL:=HL.out
   go_wp2_with(at_builtin;refine wpList_append_own _ rfl _ _ 22 rfl B 57 j0 (.agg #[.int .i64 0,.int .i64 0,.slice none 0 0,.slice none 0 0,.slice none 0 0,.slice none 0 0]) 6 112 Tryz.underlying22 hj0 hy0 hy1 hy2 rfl (by omega) (.slice F j d) j L.flatten rfl (by have:=own_below HO1.out (below_alloc (.cells #[.int .i64 per,.int .i64 dea,.slice P' n1 pc',.slice E' n2 ec',.slice F' n3 fc',.slice R' n4 rc'] 57));rw[hlL]at this;exact this) ⟨w1.heap.size,0,none⟩ 1 1 [.int .i64 per,.int .i64 dea,.slice P' n1 pc',.slice E' n2 ec',.slice F' n3 fc',.slice R' n4 rc'] rfl rfl ?hnews ?hone (by unfold maxLen;omega) (by omega) (by simp;omega) ?hrest)
   case hnews=>
    intro x u hu;rw[addr_add,World.cell?_alloc_at _ _ _ _ rfl]
    simpa using hu
   case hone=>
    intro u hu;rcases(by simpa using hu:u= .int .i64 per\/u= .int .i64 dea\/u= .slice P' n1 pc'\/u= .slice E' n2 ec'\/u= .slice F' n3 fc'\/u= .slice R' n4 rc')with rfl|rfl|rfl|rfl|rfl|rfl<;>rfl
   case hrest=>
    intro v' w' hown hg _;obtain⟨w2,hw2⟩: ∃w2,w2=w1.alloc (.cells #[.int .i64 per,.int .i64 dea,.slice P' n1 pc',.slice E' n2 ec',.slice F' n3 fc',.slice R' n4 rc'] 57):=⟨_,rfl⟩;have b2:Below w1.heap.size w1 w2:=by rw[hw2];exact below_alloc _
    rw[<-hw2]at hg;have hO2:OwnK w2 B (.slice F j d) L:=own_below HO1.out b2;obtain⟨F2,d2,rfl⟩:=own_slice hown;have HO3:=Lib.hid (show OwnK w' B (.slice F2 (j+1) d2) (L++ [[.int .i64 per,.int .i64 dea,.slice P' n1 pc',.slice E' n2 ec',.slice F' n3 fc',.slice R' n4 rc']])from by
     unfold OwnK;rw[List.length_append,HL.out,List.flatten_append]
     simpa using hown)
    have HD3:=Lib.hid (show∀(k:Nat) x T,(L++ [[Value.int .i64 per,.int .i64 dea,.slice P' n1 pc',.slice E' n2 ec',.slice F' n3 fc',.slice R' n4 rc']])[k]? =some x->(pairT l)[k]? =some T->OwnD1 w' B x T from fun k x T' hx hT=>by
     by_cases hk:k<j
     ·rw [List.getElem?_append_left (by rw [HL.out]; exact hk)] at hx
      exact((HDs.out k x T' hx hT).below b2).grown hO2 hg
     ·by_cases e: k = j
      ·subst e
       rw[List.getElem?_append_right (by rw[HL.out];exact Nat.le_refl _),HL.out,Nat.sub_self]at hx
       obtain rfl:_=x:=by simpa using hx
       rw[HT2.out]at hT;obtain rfl:=Option.some.inj hT;exact(HD1.out.below b2).grown hO2 hg
      ·rw [List.getElem?_eq_none (by rw [List.length_append,HL.out]; simp; omega)] at hx
       cases hx)
    have HB3:=Lib.hid (show Below B wf w' from(HB1.out.trans (b2.mono hBw1)).grown hg (by have:=b2.size;omega) (fun x hx=>(own_at hO2 hx).1))
    clear hown hg hw2 b2 hO2;go_wp2;go_roundw
    case rel=>exact⟨j+1,F2,d2,_,by omega,by go_num,rfl,Lib.hid (by rw[List.length_append,HL.out];rfl),HO3,HD3,HB3⟩
    case measure=>simp[intOf];omega
  ·obtain rfl: j = n:=by omega
   have hpl:(pairT l).length=j:=by rw[pairT_len,HN.out]
   obtain⟨A',d',l',e,hp,hts,hz⟩:=HO.out.isTs (HTB.out wr HB.out) (by rw[HL.out,hpl]) (fun k x T hx hT=>HD.out k x T hx hT) (fun T hT=>by
    obtain⟨x,hx,rfl⟩:=List.mem_map.mp hT;exact HF.out x hx)
   have hl':l'.length=j:=by rw[<-pairT_len,hp,hpl]
   rw[hl']at e hz;injection e with a1 a2 a3;subst a1 a3;have HR:=Lib.hid (And.intro hl' (And.intro hp (And.intro hts hz)));clear hl' hp hts hz hpl a2;go_wp2;refine bodyPost_ret (v:=.slice F j d) ?_ rfl ⟨F,d,l',rfl,HR.out.1,HR.out.2.1,HR.out.2.2.1,HR.out.2.2.2,HB.out⟩
   simp[results,Tryz.results12,go_sem]
theorem grown_set{w:World}{q k:Nat}(x:Value):w.grownBy (w.setCell ⟨q,k,none⟩ x) (some q):=
 ⟨rfl,rfl,rfl,by simp,fun t _ hne=>Below.heap_setCell w ⟨q,k,none⟩ x t (fun e=>hne (by rw[e]))⟩
theorem grown_below{w w':World}(h:Below w.heap.size w w'):w.grownBy w' none:=⟨h.os,h.tape,h.output,h.size,fun k hk _=>h.block k hk⟩
def OwnC(w:World)(B:Nat)(v:Value)(L:List Value):Prop:=w.ownsRow B 40 1 v L.length L
def EachC(w:World)(B:Nat)(L:List Value)(C:List (List Int)):Prop:=∀ (k:Nat) x r,L[k]? =some x->C[k]? =some r-> ∃F d,x= .slice F r.length d/\OwnI w B x r
theorem ints_ne:(3:TypeId)≠40:=by decide
theorem plan_ne1:(40:TypeId)≠28:=by decide
theorem plan_ne2:(3:TypeId)≠28:=by decide
theorem plan_ne3:(44:TypeId)≠28:=by decide
theorem EachC.grown{w w':World}{B:Nat}{L:List Value}{C:List (List Int)}{row:Option Nat}(h:EachC w B L C)(hg:w.grownBy w' row)(hr: ∀e,row=some e-> ∃cs ty,w.heap[e]? =some (.cells cs ty (0,0))/\3≠ty):EachC w' B L C:=fun k x r hx hc=>by
 obtain⟨F,d,e,hO⟩:=h k x r hx hc;refine⟨F,d,e,own_grown hO hg fun g hv e2=> ?_⟩
 obtain⟨cs,ty,h1,h2⟩:=hr g e2;exact own_ne hO h1 h2 hv
theorem slices_info17:(Tryz.prog.info? 40).map (fun i=>(i.zero,i.size,i.bytes))=some (some (.slice none 0 0),1,24):=by kernel_rfl
theorem slices_info: ∃i,Tryz.prog.info? 40=some i/\i.zero=some (.slice none 0 0)/\i.size=1/\i.bytes=24:=by
  have h:=slices_info17;cases hi:Tryz.prog.info? 40 with
  |none=>rw[hi]at h;cases h
  | some i =>
    rw[hi]at h;simp at h;exact⟨i,rfl,h.1,h.2.1,h.2.2⟩
theorem push_list{w:World}{base b j:Nat}{v x:Value}{L:List Value}(hL:L.length=j)(hO:OwnC w base v L)(hb:w.heap[b]? =some (.cells #[x] 40 (0,0)))(hx:x.oneCell'=true)(hl:j<=900)(hB:base<=w.heap.size):
    ∃F d w',(Builtin.append_ #[26,26] 26 #[v, .slice (some ⟨b,0,none⟩) 1 1]).run Tryz.prog w= .ok (.slice F (j+1) d) w'/\OwnC w' base (.slice F (j+1) d) (L++ [x])/\w.grownBy w' v.ownBlock:=by
  obtain⟨i0,hi0,hz0,hz1,hz2⟩:=slices_info;obtain⟨v',w',hr,ho,hg, -⟩:=run_append_own (P:=Tryz.prog) w base 26 26 40 i0 (.slice none 0 0) 1 24 Tryz.underlying26 hi0 hz0 hz1 hz2 rfl (by decide) v L.length L hO ⟨b,0,none⟩ 1 1 [x] rfl
    (fun j u hj=>by
      match j with
      | 0 =>
        obtain rfl:x=u:=by simpa using hj
        rw[addr_add];exact cell_of_row _ _ _ _ _ _ hb▸rfl
      | j + 1 => simp at hj) (fun u hu => by obtain rfl : u = x := by simpa using hu
                                             exact hx) (by unfold maxLen;omega) (by omega) hB
  have hO':OwnC w' base v' (L++ [x]):=by
    unfold OwnC;rw[List.length_append,List.length_singleton];exact ho
  obtain⟨F,d,rfl⟩:=own_slice ho;rw[hL]at hr hO';exact⟨F,d,w',hr,hO',hg⟩
section
variable {wf: World} {B g q j: Nat} {vS vG: Value} {G: Option Addr} {m d b off: Nat} {A1: Option Addr} {n1 c1: Nat} {cj: List Int} {S: List Shp} {L: List Value} {C: List (List Int)}
end
end Go.Proofs.YtlfekmbalgkmeaaGreatDoor
