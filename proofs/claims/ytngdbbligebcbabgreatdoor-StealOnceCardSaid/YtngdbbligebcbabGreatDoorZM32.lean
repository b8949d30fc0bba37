import Derived.Test.YtngdbbligebcbabGreatDoorZStealTick
import Derived.Test.YtngdbbligebcbabGreatDoorZM31
import Derived.Test.YtngdbbligebcbabGreatDoorZStealBegin
import Derived.Test.YtngdbbligebcbabGreatDoorZM20
import Derived.Test.YtngdbbligebcbabGreatDoorZM24
import Derived.Test.YtngdbbligebcbabGreatDoorZM25
import Derived.Test.YtngdbbligebcbabGreatDoorZM5
set_option linter.unusedVariables false
set_option linter.unusedSimpArgs false
set_option maxRecDepth 100000
set_option maxHeartbeats 8000000
namespace Go.Proofs.YtngdbbligebcbabGreatDoor
open Go Go.RowKit
def NewOg(w:World)(t:TypeId)(base:Nat)(v:Value):Prop:=∃ g,v= .slice (some ⟨g,0,none⟩) 0 0/\w.heap[g]? =some (.cells #[] t (0,0))/\base<=g
theorem NewOg.below{w w':World}{t:TypeId}{base:Nat}{v:Value}(h:NewOg w t base v)(hb:Below w.heap.size w w'):NewOg w' t base v:=by
 obtain⟨g,e,hg,hl⟩:=h;exact⟨g,e,by rw[hb.block _ (Array.getElem?_eq_some_iff.1 hg).1];exact hg,hl⟩
structure OgSt(w:World)(b m:Nat)(g:Gng)(L:List Int)(v0 v1 v3 v4:Value):Prop where
 s0: ∃g1 c1,v0= .slice (some ⟨g1,0,none⟩) m c1
 on:OwnI w b v0 g.O
 left:OwnI w b v1 L
 s3: ∃g1 c1,v3= .slice (some ⟨g1,0,none⟩) m c1
 tks:w.ownsRow b 65 6 v3 m (flatN (fun c=>cT (g.tk c)) m)
 s4: ∃g1 c1,v4= .slice (some ⟨g1,0,none⟩) m c1
 frm:OwnI w b v4 (frL m g)
section
variable {w w': World} {b m: Nat} {g: Gng} {L: List Int} {v0 v1 v3 v4: Value}
theorem OgSt.below(h:OgSt w b m g L v0 v1 v3 v4)(hb:Below w.heap.size w w'):OgSt w' b m g L v0 v1 v3 v4:=
 ⟨h.s0,h.on.below hb,h.left.below hb,h.s3,own_below h.tks hb,h.s4,h.frm.below hb⟩
theorem OgSt.far(h:OgSt w b m g L v0 v1 v3 v4){p k:Nat}{vs:List Value}(hp:RowV p 41 vs w)(u:Value):OgSt (w.setCell ⟨p,k,none⟩ u) b m g L v0 v1 v3 v4:=
 ⟨h.s0,own_farT h.on hp (by decide) u,own_farT h.left hp (by decide) u,h.s3,own_farT h.tks hp (by decide) u,h.s4,own_farT h.frm hp (by decide) u⟩
end
structure OgLp(w1:World)(p m j:Nat)(g:Gng)(L:List Int)(v0 v1 v3 v4 vD:Value)(Rv:Nat->Value)(w:World):Prop where
 bel:Below w1.heap.size w1 w
 row:RowV p 41 [v0,v1,vD,v3,v4] w
 hp:w1.heap.size<=p
 st:OgSt w w1.heap.size m g L v0 v1 v3 v4
 dqs:w.ownsRow w1.heap.size 81 3 vD j (flatN (fun i=> [Rv i,.int .i64 (g.T i),.int .i64 (g.B i)]) j)
 ring: ∀i,i<j->OwnI w w1.heap.size (Rv i) (g.R i)
section
variable {w1 w w': World} {p m j: Nat} {g: Gng} {L: List Int} {v0 v1 v3 v4 vD: Value} {Rv: Nat -> Value}
theorem OgLp.next(h:OgLp w1 p m j g L v0 v1 v3 v4 vD Rv w)(hb:Below w.heap.size w w'):OgLp w1 p m j g L v0 v1 v3 v4 vD Rv w':=
 ⟨h.bel.trans (hb.mono h.bel.size),h.row.below hb h.row.lt,h.hp,h.st.below hb,own_below h.dqs hb,fun i hi=>(h.ring i hi).below hb⟩
theorem OgLp.push(h:OgLp w1 p m j g L v0 v1 v3 v4 vD Rv w){v vn:Value}(hv:OwnI w w1.heap.size v (g.R j))(hr:RXs 81 w1.heap.size vD.ownBlock w w')
  (ho:w'.ownsRow w1.heap.size 81 3 vn (j+1) (flatN (fun i=> [Rv i,.int .i64 (g.T i),.int .i64 (g.B i)]) j++ [v,.int .i64 (g.T j),.int .i64 (g.B j)])):
  OgLp w1 p m (j+1) g L v0 v1 v3 v4 vn (updG Rv j v) (w'.setCell ⟨p,2,none⟩ vn):=by
 have hb:Below w1.heap.size w w':=hr.below h.bel.size;have r1:=hr.rowV h.row (by decide)
 have b0:=r1;unfold RowV at b0;have far: ∀{e:TypeId} {s n:Nat} {u:Value} {ys:List Value},e≠41->w'.ownsRow w1.heap.size e s u n ys->(w'.setCell ⟨p,2,none⟩ vn).ownsRow w1.heap.size e s u n ys:=fun he hy=>rowN_far hy (rowN_types hy b0 he)
 refine⟨(h.bel.trans hb).setCell h.hp vn,r1.set 2 vn,h.hp,⟨h.st.s0,far (by decide) (hr.own h.st.on (by decide)),far (by decide) (hr.own h.st.left (by decide)),h.st.s3,far (by decide) (hr.own h.st.tks (by decide)),h.st.s4,far (by decide) (hr.own h.st.frm (by decide))⟩,?_,fun i hi=> ?_⟩
 ·have h1:=far (by decide) ho
  have e:flatN (fun i=> [updG Rv j v i,.int .i64 (g.T i),.int .i64 (g.B i)]) (j+1)=flatN (fun i=> [Rv i,.int .i64 (g.T i),.int .i64 (g.B i)]) j++ [v,.int .i64 (g.T j),.int .i64 (g.B j)]:=by
   rw[flatN_succ,updG_at];congr 1;exact flatN_congr fun i hi=>by rw[updG_ne _ _ (by omega)]
  rw[e];exact h1
 ·by_cases e: i = j
  ·subst e;rw[updG_at];exact far (by decide) (hr.own hv (by decide))
  ·rw[updG_ne _ _ e];exact far (by decide) (hr.own (h.ring i (by omega)) (by decide))
end
structure OgEnd(w:World)(b m:Nat)(g:Gng)(L:List Int)(v0 v1 v3 v4 vD:Value)(Rv:Nat->Value):Prop where
 st:OgSt w b m g L v0 v1 v3 v4
 dqs:w.ownsRow b 81 3 vD m (flatN (fun i=> [Rv i,.int .i64 (g.T i),.int .i64 (g.B i)]) m)
 ring: ∀i,i<m->OwnI w b (Rv i) (g.R i)
section
variable {w: World} {b m: Nat} {g: Gng} {L: List Int} {v0 v1 v3 v4 vD: Value} {Rv: Nat -> Value}
theorem OgEnd.far(h:OgEnd w b m g L v0 v1 v3 v4 vD Rv){p k:Nat}{vs:List Value}(hp:RowV p 41 vs w)(u:Value):OgEnd (w.setCell ⟨p,k,none⟩ u) b m g L v0 v1 v3 v4 vD Rv:=
 ⟨h.st.far hp u,own_farT h.dqs hp (by decide) u,fun i hi=>own_farT (h.ring i hi) hp (by decide) u⟩
end
def NewD(w:World)(base:Nat)(v:Value):Prop:=∃ g,v= .slice (some ⟨g,0,none⟩) 0 0/\w.heap[g]? =some (.cells #[] 3 (0,0))/\base<=g
theorem NewD.below{w w':World}{base:Nat}{v:Value}(h:NewD w base v)(hb:Below w.heap.size w w'):NewD w' base v:=by
 obtain⟨g,e,hg,hl⟩:=h;exact⟨g,e,by rw[hb.block _ (Array.getElem?_eq_some_iff.1 hg).1];exact hg,hl⟩
theorem fresh_intsD{w:World}{base:Nat}{u:Value}(hu:NewD w base u)(hbw:base<=w.heap.size){A:Option Addr}{n c:Nat}{zs:List Int}(hn:zs.length=n)(hl:n<=1000)(hI:Ints w w.heap.size A zs)(hA:A=none->n=0/\c=0):
  ∃A1 c1 w',(Builtin.append_ #[22,22] 22 #[u,.slice A n c]).run Tryz.prog w= .ok (.slice A1 n c1) w'/\OwnI w' base (.slice A1 n c1) zs/\Below w.heap.size w w':=by
 obtain⟨g,rfl,hg,hbg⟩:=hu;obtain⟨i0,hi,hz0,hz1,hz2⟩:=int_info1;subst hn;obtain⟨v',w',hr,ho,hb⟩:=fresh_append (P:=Tryz.prog) w 22 22 3 i0 (.int .i64 0) 1 8 Tryz.underlying22 hi hz0 hz1 hz2 rfl (by decide) base g hg hbg hbw A zs.length c (zs.map (Value.int .i64)) (by simp) hA (fun ad e=>by subst e;exact hI.cells) (oneCell_ints zs) (by unfold maxLen;omega) (by omega)
 have ho2:OwnI w' base v' zs:=ho;obtain⟨A1,c1,rfl,_⟩:=ho2.slice;exact⟨A1,c1,w',hr,ho2,hb⟩
def PhiOw(wf:World)(A:Option Addr)(n c:Nat)(R:List Int)(T B:Int):Nat->Value->World->Prop
 |0,v,w=>NewD w (wf.heap.size+2) v
 |1,v,w=>v= .pointer (some ⟨wf.heap.size,0,none⟩)
 |2,v,w=>v= .slice A n c
 |3,v,w=> ∃A1 c1,v= .slice A1 n c1/\OwnI w (wf.heap.size+2) (.slice A1 n c1) R
 |4,v,w=>v= .pointer (some ⟨wf.heap.size,1,none⟩)
 |5,v,w=>v= .int .i64 T
 |6,v,w=>v= .pointer (some ⟨wf.heap.size,2,none⟩)
 |7,v,w=>v= .int .i64 B
 |8,v,w=> ∃A1 c1,v= .agg #[.slice A1 n c1,.int .i64 T,.int .i64 B]/\OwnI w (wf.heap.size+2) (.slice A1 n c1) R
 |_,_,_=>True
theorem phiOw_below{wf:World}{A:Option Addr}{n c:Nat}{R:List Int}{T B:Int}: ∀kq v w w',PhiOw wf A n c R T B kq v w->Below w.heap.size w w'->PhiOw wf A n c R T B kq v w':=by
 intro kq v w w' h hb
 match kq,h with
 |0,h=>exact NewD.below h hb
 |1,h=>exact h
 |2,h=>exact h
 |3,h=>exact(by obtain⟨A1,c1,e,ho⟩:=h;exact⟨A1,c1,e,OwnI.below ho hb⟩)
 |4,h=>exact h
 |5,h=>exact h
 |6,h=>exact h
 |7,h=>exact h
 |8,h=>exact(by obtain⟨A1,c1,e,ho⟩:=h;exact⟨A1,c1,e,OwnI.below ho hb⟩)
 |kq+9,h=>exact trivial
def ThtOw(wf:World)(A:Option Addr)(n c:Nat)(R:List Int)(T B:Int)(t:Nat)(f:Nat->Value)(w2:World):Prop:=
 9<=t/\t<=10/\ ∃A1 c1,f 11= .agg #[.slice A1 n c1,.int .i64 T,.int .i64 B]/\OwnI w2 (wf.heap.size+2) (.slice A1 n c1) R/\(t=9->Rws wf (rowsP A n c T B) w2)/\
  (t=10->Rws wf [(81,[.slice A n c,.int .i64 T,.int .i64 B]),(81,[.slice A1 n c1,.int .i64 T,.int .i64 B])] w2)
theorem results_one{fn:Func}{p:Tmp}(h:fn.results= #[.cell p 81]){tmps:Array Value}{w:World}{g:Nat}{cs:List Value}(hp:tmps.getD p undef= .pointer (some ⟨g,0,none⟩))(h1:RowV g 81 cs w)(l1:cs.length=3):
  (results fn tmps).run Tryz.prog w= .ok (.agg cs.toArray) w:=
 results_cell_row h _ _ g _ _ _ _ hp h1 Tryz.underlying81 rfl (by rw[dq_info];simp[l1])
section
variable {A: Option Addr} {n c: Nat} {R: List Int}
theorem ownD_any(T B:Int)(wf:World)(hq:IsQ wf A n c R):
    Calls Tryz.prog 45 #[.agg #[.slice A n c, .int .i64 T, .int .i64 B]] wf fun e w'=> ∃A' c',e= .returned (.agg #[.slice A' n c', .int .i64 T, .int .i64 B])/\OwnQ w' wf.heap.size A' n c' R/\Below wf.heap.size wf w':=by
  have B0:=Lib.hid (Rws.start wf (rowsP A n c T B));have HQ:=Lib.hid hq;obtain⟨w0,hw0⟩: ∃w0,w0=allocs wf (rowsP A n c T B):=⟨_,rfl⟩;rw[<-hw0]at B0;have HW:Hid (w0=(wf.alloc (.cells #[.slice A n c, .int .i64 T, .int .i64 B] 81)).alloc (.cells #[.slice none 0 0, .int .i64 0, .int .i64 0] 81)):=Lib.hid hw0;have HS0:Hid (wf.heap.size+2<=w0.heap.size):=Lib.hid (by rw[hw0];simp[rowsP,allocs])
  clear hw0 hq;go_enter Tryz.func45,Tryz.ntmps45;go_upto_region 1 with fail;rw[<-HW.out];clear HW;refine wp_region_tail 9 [3,4,5,6,7,8,9,10,11,1000] [] (by kernel_rfl) (by kernel_rfl) (by intro d hd;simp at hd⊢;omega) (fun z=>Rws wf (rowsP A n c T B) z/\wf.heap.size+2<=z.heap.size) (PhiOw wf A n c R T B) (fun _ _=>True) (ThtOw wf A n c R T B)
    (fun z z' h hb=>⟨h.1.next hb,Nat.le_trans h.2 hb.size⟩) phiOw_below (⟨B0.out.next (Below.refl _ _).drew,HS0.out⟩) ?hstep ?hloose ?hmid ?htail ?hcon ?hend
  case hstep=>
    intro kq o hkm hkF ho a1 w hI hA hd K hK;obtain⟨ρ,hρ⟩: ∃ρ,a1.eval=ρ:=⟨_,rfl⟩;rw[hρ]at hA hd
    match kq,hkm,hkF,ho with
    | 0, _, _, ho =>
      have hoo:=Option.some.inj ho;subst hoo;exact fx_make hK hρ (.slice (some ⟨w.heap.size,0,none⟩) 0 0) (w.alloc (.cells #[] 3)) (by simp[execOp,go_sem]) ⟨w.heap.size,rfl,heap_alloc_new w _,hI.2⟩ (below_alloc _)
    | 1, _, _, ho =>
      have hoo:=Option.some.inj ho;subst hoo;exact fx_val hK hρ (.pointer (some ⟨wf.heap.size,0,none⟩)) (by have h:=hA.tmp 1 (by decide);simp[execOp,h,go_sem]) rfl
    | 2, _, _, ho =>
      have hoo:=Option.some.inj ho;subst hoo;have f1:ρ (.tmp 4)= .pointer (some ⟨wf.heap.size,0,none⟩):=hd ⟨1, .data⟩ (by simp) (by rfl) (by decide)
      have h0:=hI.1.cell 0 0 rfl rfl;simp only[Nat.add_zero]at h0;exact fx_val hK hρ (.slice A n c) (by simp[execOp,f1,h0,go_sem]) rfl
    | 3, _, _, ho =>
      have hoo:=Option.some.inj ho;subst hoo;have f0:NewD w (wf.heap.size+2) (ρ (.tmp 3)):=hd ⟨0, .data⟩ (by simp) (by rfl) (by decide)
      have f2:ρ (.tmp 5)= .slice A n c:=hd ⟨2, .data⟩ (by simp) (by rfl) (by decide)
      have hq:=HQ.out.below hI.1.bel;obtain⟨yv,hyv⟩: ∃yv,ρ (.tmp 3)=yv:=⟨_,rfl⟩;rw[hyv]at f0;obtain⟨A1,c1,w',hr,ho,hb⟩:=fresh_intsD f0 hI.2 hq.hn hq.ln hq.ints hq.hA;exact fx_make hK hρ _ w' (exec_append (.tmp 3) (.tmp 5) 22 _ _ rfl hyv f2 hr) ⟨A1,c1,rfl,ho⟩ hb
    | 4, _, _, ho =>
      have hoo:=Option.some.inj ho;subst hoo;exact fx_val hK hρ (.pointer (some ⟨wf.heap.size,1,none⟩)) (by have h:=hA.tmp 1 (by decide);simp[execOp,h,go_sem]) rfl
    | 5, _, _, ho =>
      have hoo:=Option.some.inj ho;subst hoo;have f4:ρ (.tmp 7)= .pointer (some ⟨wf.heap.size,1,none⟩):=hd ⟨4, .data⟩ (by simp) (by rfl) (by decide)
      have h0:=hI.1.cell 0 1 rfl rfl;simp only[Nat.add_zero]at h0;exact fx_val hK hρ (.int .i64 T) (by simp[execOp,f4,h0,go_sem]) rfl
    | 6, _, _, ho =>
      have hoo:=Option.some.inj ho;subst hoo;exact fx_val hK hρ (.pointer (some ⟨wf.heap.size,2,none⟩)) (by have h:=hA.tmp 1 (by decide);simp[execOp,h,go_sem]) rfl
    | 7, _, _, ho =>
      have hoo:=Option.some.inj ho;subst hoo;have f6:ρ (.tmp 9)= .pointer (some ⟨wf.heap.size,2,none⟩):=hd ⟨6, .data⟩ (by simp) (by rfl) (by decide)
      have h0:=hI.1.cell 0 2 rfl rfl;simp only[Nat.add_zero]at h0;exact fx_val hK hρ (.int .i64 B) (by simp[execOp,f6,h0,go_sem]) rfl
    | 8, _, _, ho =>
      have hoo:=Option.some.inj ho;subst hoo;have f3: ∃A1 c1,(ρ (.tmp 6))= .slice A1 n c1/\OwnI w (wf.heap.size+2) (.slice A1 n c1) R:=hd ⟨3, .data⟩ (by simp) (by rfl) (by decide)
      have f5:ρ (.tmp 8)= .int .i64 T:=hd ⟨5, .data⟩ (by simp) (by rfl) (by decide)
      have f7:ρ (.tmp 10)= .int .i64 B:=hd ⟨7, .data⟩ (by simp) (by rfl) (by decide)
      obtain⟨A1,c1,e3,ho⟩:=f3;exact fx_val hK hρ (.agg #[.slice A1 n c1, .int .i64 T, .int .i64 B]) (by simp[execOp,e3,f5,f7,go_sem]) ⟨A1,c1,rfl,ho⟩
    |kq+9,h,_,_=>exact absurd h (by omega)
  case hloose=>
    intro kq o hkF ho ρ w hA hd;exact absurd hkF (by simp)
  case hmid=>
    intro vals w hI hF;obtain⟨A1,c1,e,ho⟩:=hF 8 (by decide) (by decide)
    exact⟨Nat.le_refl _,by decide,A1,c1,e,ho,fun _=>hI.1,fun h=>absurd h (by decide)⟩
  case htail=>
    intro t o htm ho a1 w hA hT hL K hK;have htl:t<10:=(Array.getElem?_eq_some_iff.1 ho).1
    obtain⟨ρ,hρ⟩: ∃ρ,a1.eval=ρ:=⟨_,rfl⟩;rw[hρ]at hA
    try rw[hρ]at hL
    obtain rfl:t=9:=by omega
    have hoo:=Option.some.inj ho;subst hoo;obtain⟨t1,t2,A1,c1,e8,ho,hr,_⟩:=hT;simp only[hρ]at e8;have hrr:=hr rfl;have h2:=hA.tmp 2 (by decide)
    have e0:=hrr.cell 1 0 rfl rfl;have e1:=hrr.cell 1 1 rfl rfl;have e2:=hrr.cell 1 2 rfl rfl;have z0:=hrr.frozen 1 0 rfl;have z1:=hrr.frozen 1 1 rfl;have z2:=hrr.frozen 1 2 rfl;unfold Oper.wp;rw[show(execOp a1.eval _).run Tryz.prog w= .ok .skip (((w.setCell ⟨wf.heap.size+1,0,none⟩ (.slice A1 n c1)).setCell ⟨wf.heap.size+1,1,none⟩ (.int .i64 T)).setCell ⟨wf.heap.size+1,2,none⟩ (.int .i64 B))from by rw[hρ];simp[execOp,h2,e8,e0,e1,e2,z0,z1,z2,go_sem],Oper.upon_skip]
    refine hK undef _ ⟨by decide,by decide,A1,c1,?_⟩
    simp only[reduceCtorEq,if_false,hρ];exact⟨e8,((ho.setFar (by omega)).setFar (by omega)).setFar (by omega),fun h=>absurd h (by decide),fun _=>hrr.setQ 1 rfl _ _ _⟩
  case hcon=>
    intro t f g w h hT;obtain⟨t1,t2,A1,c1,e8,ho,hr,hr2⟩:=hT;have q8:=h 8 (by omega) (by simp)
    simp only[List.getD_cons_zero,List.getD_cons_succ]at q8;exact⟨t1,t2,A1,c1,q8▸e8,ho,hr,hr2⟩
  case hend=>
    intro vals w3 hT;obtain⟨_,_,A1,c1,_,ho,_,hr2⟩:=hT;have B2:=Lib.hid (hr2 rfl);have HO2:=Lib.hid ho;clear ho hr2;simp only[fillA,fillL,List.contains_cons,List.contains_nil,Nat.reduceBEq,Bool.or_false,Bool.false_or,Bool.or_true,Bool.true_or,cond_true,cond_false,Nat.zero_add,Nat.reduceAdd];go_wp2;exact bodyPost_ret (results_one rfl rfl (B2.out.row 1 _ _ rfl) rfl) rfl ⟨A1,c1,rfl,⟨OwnI.down HO2.out (by omega),HQ.out.hn,HQ.out.ln⟩,B2.out.bel⟩
end
end Go.Proofs.YtngdbbligebcbabGreatDoor
namespace Go.Proofs.YtngdbbligebcbabGreatDoor
open Go.RowKit
structure BxOC(w:World)(A:Option Addr)(n c:Nat)(F:Option Addr)(m d:Nat)(O L:List Int)(w':World):Prop where
 bel:Below w.heap.size w w'
 a:w'.heap[w.heap.size]? =some (.cells #[.slice A n c,.slice F m d] 37 (0,0))
 r:w'.heap[w.heap.size+1]? =some (.cells #[.slice none 0 0,.slice none 0 0] 37 (0,0))
 l:IsC w' A n c F m d O L
section
variable {A: Option Addr} {n c: Nat} {F: Option Addr} {m d: Nat} {O L: List Int}
theorem BxOC.next{w w1 w2:World}(h:BxOC w A n c F m d O L w1)(b:Below w1.heap.size w1 w2):BxOC w A n c F m d O L w2:=
 ⟨h.bel.trans (b.mono h.bel.size),(b.block _ (Array.getElem?_eq_some_iff.1 h.a).1).trans h.a,(b.block _ (Array.getElem?_eq_some_iff.1 h.r).1).trans h.r,h.l.below b⟩
def OwCF(hb:Nat)(A:Option Addr)(n c:Nat)(F:Option Addr)(m d:Nat)(O L:List Int):Nat->Value->World->Prop
 |0,v,w=>NewR 3 w (hb+2) v
 |1,v,_=>v= .pointer (some ⟨hb,0,none⟩)
 |2,v,_=>v= .slice A n c
 |3,v,w=>OwnI w (hb+2) v O
 |4,v,w=>NewR 3 w (hb+2) v
 |5,v,_=>v= .pointer (some ⟨hb,1,none⟩)
 |6,v,_=>v= .slice F m d
 |7,v,w=>OwnI w (hb+2) v L
 |8,v,w=> ∃u v',v= .agg #[u,v']/\OwnI w (hb+2) u O/\OwnI w (hb+2) v' L
 |_,_,_=>True
theorem owCF_below{hb:Nat}: ∀q v w w',OwCF hb A n c F m d O L q v w->Below w.heap.size w w'->OwCF hb A n c F m d O L q v w'
 |1,_,_,_,h,_|2,_,_,_,h,_|5,_,_,_,h,_|6,_,_,_,h,_=>h
 |0,_,_,_,h,hb=>NewR.below h hb
 |4,_,_,_,h,hb=>NewR.below h hb
 |3,_,_,_,h,hb=>own_below h hb
 |7,_,_,_,h,hb=>own_below h hb
 |8,_,_,_,⟨u,v',h1,h2,h3⟩,hb=>⟨u,v',h1,own_below h2 hb,own_below h3 hb⟩
 |_+9,_,_,_,_,_=>trivial
theorem ownC_own(w:World)(h:IsC w A n c F m d O L):
    Calls Tryz.prog 44 #[.agg #[.slice A n c, .slice F m d]] w fun z w'=>(∃A1 c1 F1 d1,z= .returned (.agg #[.slice A1 n c1, .slice F1 m d1])/\OwnI w' (w.heap.size+2) (.slice A1 n c1) O/\OwnI w' (w.heap.size+2) (.slice F1 m d1) L)/\Below w.heap.size w w':=by
  obtain⟨i0,hi0,hz0,hz1,hz2⟩:=info_partsC int_cell_info;obtain rfl:=h.hn;obtain rfl:=h.hm;have l1:=h.ln;have l2:=h.lm;obtain⟨w0,hw0⟩: ∃w0,w0=(w.alloc (.cells #[.slice A O.length c, .slice F L.length d] 37)).alloc (.cells #[.slice none 0 0, .slice none 0 0] 37):=⟨_,rfl⟩;have hB0:BxOC w A O.length c F L.length d O L w0:=by
    have x1:=heap_alloc_new w (.cells #[.slice A O.length c, .slice F L.length d] 37);obtain⟨v1,hv1⟩: ∃v1,v1=w.alloc (.cells #[.slice A O.length c, .slice F L.length d] 37):=⟨_,rfl⟩;have s1:v1.heap.size=w.heap.size+1:=by rw[hv1];simp
    have hb:Below w.heap.size w w0:=by rw[hw0];exact below_alloc2c _ _
    rw[<-hv1]at x1 hw0;have x2:=heap_alloc_new v1 (.cells #[.slice none 0 0, .slice none 0 0] 37);rw[<-hw0,s1]at x2;exact⟨hb,by rw[hw0,Below.heap_alloc _ _ _ (by omega)];exact x1,x2,h.below hb⟩
  have HB0:=Lib.hid hB0;have HW:=Lib.hid hw0;clear hB0 hw0 h;go_enter Tryz.func44,Tryz.ntmps44;go_wp2_with fail;rw[<-HW.out];clear HW;refine wp_region_gather2' 9 9 [3,4,5,6,7,8,9,10,11] (by kernel_rfl) (by kernel_rfl) (by intro d hd;simp at hd⊢;omega) (fun y=>BxOC w A O.length c F L.length d O L y/\Below w0.heap.size w0 y) (fun _=>True) (fun y z=>Below y.heap.size y z) (OwCF w.heap.size A O.length c F L.length d O L)
    (fun _ _ h=>h) (fun y z h hr=>⟨h.1.next hr,h.2.trans (hr.mono h.2.size)⟩) (fun _ _ h _=>trivial) (fun k v y z _ h hr=>owCF_below k v y z h hr) (fun v y z h _=>trivial) ⟨HB0.out.next (Below.refl _ _).drew,(Below.refl _ _).drew⟩ trivial ?hstep ?hlast
  case hstep=>
    intro q o hq ho ρ y hI hA hd hJ;have t1:ρ (.tmp 1)= .pointer (some ⟨w.heap.size,0,none⟩):=hA.tmp 1 (by decide)
    have c0:=cell_of_row y _ 0 _ _ _ hI.1.a;have c1:=cell_of_row y _ 1 _ _ _ hI.1.a;simp at c0 c1;have hlt:=(Array.getElem?_eq_some_iff.1 hI.1.r).1
    match q,hq with
    | 0, _ =>
      have hoo:=Option.some.inj ho;subst hoo;exact⟨.slice (some ⟨y.heap.size,0,none⟩) 0 0,y.alloc (.cells #[] 3),by simp[execOp,go_sem],newR_here _ y _ (by omega),below_alloc _⟩
    | 1, _ =>
      have hoo:=Option.some.inj ho;subst hoo;exact⟨.pointer (some ⟨w.heap.size,0,none⟩),y,by simp[execOp,t1,go_sem],rfl,Below.refl _ _⟩
    | 2, _ =>
      have hoo:=Option.some.inj ho;subst hoo;have f:ρ (.tmp 4)= .pointer (some ⟨w.heap.size,0,none⟩):=hd ⟨1, .data⟩ (by simp) (by rfl)
      exact⟨.slice A O.length c,y,by simp[execOp,f,c0,go_sem],rfl,Below.refl _ _⟩
    | 3, _ =>
      have hoo:=Option.some.inj ho;subst hoo;obtain⟨g,h2,hg,hgl⟩:=hd ⟨0, .data⟩ (by simp) (by rfl)
      have h2':ρ (.tmp 3)=_:=h2;have h3:ρ (.tmp 5)= .slice A O.length c:=hd ⟨2, .data⟩ (by simp) (by rfl)
      obtain⟨v',w2,hr,how,hb⟩:=fresh_append (P:=Tryz.prog) y 22 22 3 i0 (.int .i64 0) 1 8 Tryz.underlying22 hi0 hz0 hz1 hz2 rfl (by omega) (w.heap.size+2) g hg hgl (by omega) A O.length c (O.map (Value.int .i64)) (by simp) hI.1.l.hA (fun ad e=>by have q:=hI.1.l.on;rw[e]at q;exact q.cells) (oneCell_ints O) (by unfold maxLen;omega) (by omega)
      exact⟨v',w2,by simp[execOp,resolve,invoke,builtin,h2',h3,hr,Result.andThen],how,hb⟩
    | 4, _ =>
      have hoo:=Option.some.inj ho;subst hoo;exact⟨.slice (some ⟨y.heap.size,0,none⟩) 0 0,y.alloc (.cells #[] 3),by simp[execOp,go_sem],newR_here _ y _ (by omega),below_alloc _⟩
    | 5, _ =>
      have hoo:=Option.some.inj ho;subst hoo;exact⟨.pointer (some ⟨w.heap.size,1,none⟩),y,by simp[execOp,t1,go_sem],rfl,Below.refl _ _⟩
    | 6, _ =>
      have hoo:=Option.some.inj ho;subst hoo;have f:ρ (.tmp 8)= .pointer (some ⟨w.heap.size,1,none⟩):=hd ⟨5, .data⟩ (by simp) (by rfl)
      exact⟨.slice F L.length d,y,by simp[execOp,f,c1,go_sem],rfl,Below.refl _ _⟩
    | 7, _ =>
      have hoo:=Option.some.inj ho;subst hoo;obtain⟨g,h2,hg,hgl⟩:=hd ⟨4, .data⟩ (by simp) (by rfl)
      have h2':ρ (.tmp 7)=_:=h2;have h3:ρ (.tmp 9)= .slice F L.length d:=hd ⟨6, .data⟩ (by simp) (by rfl)
      obtain⟨v',w2,hr,how,hb⟩:=fresh_append (P:=Tryz.prog) y 22 22 3 i0 (.int .i64 0) 1 8 Tryz.underlying22 hi0 hz0 hz1 hz2 rfl (by omega) (w.heap.size+2) g hg hgl (by omega) F L.length d (L.map (Value.int .i64)) (by simp) hI.1.l.hF (fun ad e=>by have q:=hI.1.l.left;rw[e]at q;exact q.cells) (oneCell_ints L) (by unfold maxLen;omega) (by omega)
      exact⟨v',w2,by simp[execOp,resolve,invoke,builtin,h2',h3,hr,Result.andThen],how,hb⟩
    | 8, _ =>
      have hoo:=Option.some.inj ho;subst hoo;have h3:OwnI y (w.heap.size+2) (ρ (.tmp 6)) O:=hd ⟨3, .data⟩ (by simp) (by rfl)
      have h7:OwnI y (w.heap.size+2) (ρ (.tmp 10)) L:=hd ⟨7, .data⟩ (by simp) (by rfl)
      obtain⟨A1,a1,f3,_⟩:=h3.slice;obtain⟨A2,a2,f7,_⟩:=h7.slice;rw[f3]at h3;rw[f7]at h7;exact⟨.agg #[.slice A1 O.length a1, .slice A2 L.length a2],y,by simp[execOp,f3,f7,go_sem],⟨_,_,rfl,h3,h7⟩,Below.refl _ _⟩
    |q+9,hk=>omega
  case hlast=>
    intro o ho vals y hI hF;have hoo:=Option.some.inj ho;subst hoo;obtain⟨u,v',q8,h2,h3⟩:OwCF w.heap.size A O.length c F L.length d O L 8 (vals 11) y:=hF 8 (by decide)
    obtain⟨hJ1,hJ2⟩:=hI;obtain⟨A1,c1,rfl,_⟩:=OwnI.slice h2;obtain⟨F1,d1,rfl,_⟩:=OwnI.slice h3;refine ox_storeC (g:=w.heap.size+1) (u:= .slice A1 O.length c1) (v:= .slice F1 L.length d1) rfl rfl rfl q8 ⟨_,_,_,_,_,_,rfl,rfl⟩ hJ1.r ?_
    have hg:=hJ1.r;have hoth: ∀k,k≠w.heap.size+1->((y.setCell ⟨w.heap.size+1,0,none⟩ (.slice A1 O.length c1)).setCell ⟨w.heap.size+1,1,none⟩ (.slice F1 L.length d1)).heap[k]? =y.heap[k]? :=fun k hk=>by rw[heap_setCell_other _ _ _ _ hk,heap_setCell_other _ _ _ _ hk]
    have o2:=other_ownC h2 hg (by decide) hoth
    have o3:=other_ownC h3 hg (by decide) hoth
    have s3:=row_setC hg (.slice A1 O.length c1) (.slice F1 L.length d1);have hbe:Below w.heap.size w ((y.setCell ⟨w.heap.size+1,0,none⟩ (.slice A1 O.length c1)).setCell ⟨w.heap.size+1,1,none⟩ (.slice F1 L.length d1)):=hJ1.bel.trans (below_setC (Nat.le_succ _) _ _);have HE:=Lib.hid (And.intro s3 (And.intro hbe (And.intro o2 o3)));clear hF hJ1 hJ2 h2 h3 hg s3 hbe o2 o3 hoth;simp only[fillA,fillL,List.contains_cons,List.contains_nil,Nat.reduceBEq,Bool.or_false,Bool.or_true,cond_true,cond_false,Nat.zero_add,Nat.reduceAdd];go_wp2;refine bodyPost_ret (v:= .agg #[.slice A1 O.length c1, .slice F1 L.length d1]) ?_ rfl ⟨⟨A1,c1,F1,d1,rfl,HE.out.2.2.1,HE.out.2.2.2⟩,HE.out.2.1⟩
    exact results_cell_row rfl _ _ (w.heap.size+1) _ _ _ _ rfl HE.out.1 Tryz.underlying37 rfl (by kernel_rfl)
end
section
variable {A: Option Addr} {n c: Nat} {F: Option Addr} {m d: Nat} {A': Option Addr} {n' c': Nat} {F': Option Addr} {m' d': Nat}
end
end Go.Proofs.YtngdbbligebcbabGreatDoor
