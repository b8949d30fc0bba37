import Derived.Test.YtngdbbligebcbabGreatDoorZM29
import Derived.Test.YtngdbbligebcbabGreatDoorZStealCopied
import Derived.Test.YtngdbbligebcbabGreatDoorZM31
import Derived.Laws.MakeOwn
set_option linter.unusedVariables false
set_option linter.unusedSimpArgs false
set_option maxRecDepth 100000
set_option maxHeartbeats 16000000
namespace Go.Proofs.YtngdbbligebcbabGreatDoor
open Go Go.RowKit
theorem dealG_snoc(m:Nat): ∀(l:List Nat) (g:Gng) (x:Nat),dealG m g (l++ [x])=pushG (dealG m g l) (x%m) (x:Int)
 | [],g,x=>rfl
 |y::r,g,x=>dealG_snoc m r _ x
theorem dealG_take(m:Nat)(g:Gng)(l:List Nat){k x:Nat}(h:l[k]? =some x):dealG m g (l.take (k+1))=pushG (dealG m g (l.take k)) (x%m) (x:Int):=by
 rw[List.take_add_one,h];exact dealG_snoc m _ g x
theorem deal_room{n m:Nat}(m1:1<=m)(n64:n<=64){l:List Nat}(hnd:l.Nodup)(hlt: ∀y∈l,y<n){k x:Nat}(hx:l[k]? =some x):
  ((dealG m (emptyG m) (l.take k)).R (x%m)).length=64/\pushE 64 ((dealG m (emptyG m) (l.take k)).T (x%m)) ((dealG m (emptyG m) (l.take k)).B (x%m))=0:=by
 have hk:k<l.length:=(List.getElem?_eq_some_iff.1 hx).1
 have hxe:l[k]=x:=(List.getElem?_eq_some_iff.1 hx).2
 have I:=DealInv.deal (n:=n) m1 n64 (DealInv.start m1) (hnd.sublist (List.take_sublist k l)) (fun y hy=>⟨hlt y (List.mem_of_mem_take hy),by simp⟩)
 rw[List.nil_append]at I;have hno:x∉l.take k:=fun q=>by
  obtain⟨i,hi,he⟩:=List.getElem_of_mem q;rw[List.length_take]at hi;rw[List.getElem_take]at he;have hii:i<l.length:=by omega
  have h2:=List.pairwise_iff_getElem.mp hnd i k hii hk (by omega)
  exact h2 (by rw[he,hxe])
 have hxm:x%m<m:=Nat.mod_lt _ (by omega)
 have h2:=I.push m1 n64 (hlt x (hxe▸List.getElem_mem hk)) hno hxm;refine⟨I.rl _ hxm,?_⟩
 have hT:=I.same.1 (x%m);have hB:=I.lo _ hxm;have h3:=h2.1;rw[hT];unfold pushE ChkQ SizeOk;have hc:(64:Int)=64:=rfl;rw[if_neg (fun q=>q ⟨by decide,by omega,by omega,by omega,by omega⟩),if_neg (by omega)]
structure BgSt(wf:World)(gc gw m j:Nat)(vW vE vO vL vT vF vD:Value)(need:List Int)(Rv:Nat->Value)(w:World):Prop where
 bel:Below wf.heap.size wf w
 dag:RowV wf.heap.size 25 [vW,vE] w
 crew:RowV gc 37 [vO,vL] w
 hgc:wf.heap.size<=gc
 row:RowV gw 73 [vO,vL,vD,vT,vF,vW,vE] w
 hgw:wf.heap.size<=gw
 on:OwnI w wf.heap.size vO (List.replicate m (-1))
 left:OwnI w wf.heap.size vL need
 tks:w.ownsRow wf.heap.size 65 6 vT m (flatN (fun _=>cT (newTk false)) m)
 frm:OwnI w wf.heap.size vF (List.replicate m 0)
 dqs:w.ownsRow wf.heap.size 81 3 vD j (flatN (fun i=> [Rv i,.int .i64 0,.int .i64 0]) j)
 ring: ∀i,i<j->OwnI w wf.heap.size (Rv i) (List.replicate 64 0)
 a1:ApartV vO vL
 a2:ApartV vO vF
 a3:ApartV vF vL
 a4: ∀i,i<j->ApartV (Rv i) vO/\ApartV (Rv i) vF
section
variable {wf w w': World} {gc gw m j: Nat} {vW vE vO vL vT vF vD: Value} {need: List Int} {Rv: Nat -> Value}
theorem BgSt.next(h:BgSt wf gc gw m j vW vE vO vL vT vF vD need Rv w)(hb:Below w.heap.size w w'):BgSt wf gc gw m j vW vE vO vL vT vF vD need Rv w':=
 ⟨h.bel.trans (hb.mono h.bel.size),h.dag.below hb h.dag.lt,h.crew.below hb h.crew.lt,h.hgc,h.row.below hb h.row.lt,h.hgw,h.on.below hb,h.left.below hb,own_below h.tks hb,h.frm.below hb,own_below h.dqs hb,fun i hi=>(h.ring i hi).below hb,h.a1,h.a2,h.a3,h.a4⟩
theorem RXs.rowV{u:TypeId}{base:Nat}{row:Option Nat}{g:Nat}{t:TypeId}{vs:List Value}(hr:RXs u base row w w')(h:RowV g t vs w)(ht:t≠u):RowV g t vs w':=by
 unfold RowV at h⊢;exact hr.heap h ht
theorem BgSt.push(h:BgSt wf gc gw m j vW vE vO vL vT vF vD need Rv w){v vn:Value}(hv:OwnI w wf.heap.size v (List.replicate 64 0))(av:ApartV v vO/\ApartV v vF)(hr:RXs 81 wf.heap.size vD.ownBlock w w')
  (ho:w'.ownsRow wf.heap.size 81 3 vn (j+1) (flatN (fun i=> [Rv i,.int .i64 0,.int .i64 0]) j++ [v,.int .i64 0,.int .i64 0])):
  BgSt wf gc gw m (j+1) vW vE vO vL vT vF vn need (updG Rv j v) (w'.setCell ⟨gw,2,none⟩ vn):=by
 have hb:Below wf.heap.size w w':=hr.below h.bel.size;have r1:=hr.rowV h.row (by decide)
 have b0:=r1;unfold RowV at b0;have far: ∀{e:TypeId} {s n:Nat} {u:Value} {ys:List Value},e≠73->w'.ownsRow wf.heap.size e s u n ys->(w'.setCell ⟨gw,2,none⟩ vn).ownsRow wf.heap.size e s u n ys:=fun he hy=>rowN_far hy (rowN_types hy b0 he)
 have hrow:RowV gw 73 [vO,vL,vn,vT,vF,vW,vE] (w'.setCell ⟨gw,2,none⟩ vn):=r1.set 2 vn;have oth: ∀{g:Nat} {t:TypeId} {vs:List Value},t≠81->t≠73->RowV g t vs w->RowV g t vs (w'.setCell ⟨gw,2,none⟩ vn):=fun{g t vs} h1 h2 hg=>by
  have h3:=hr.rowV hg h1;unfold RowV at h3⊢;rw[heap_setCell_other _ _ _ _ (fun q=> ?_)]
  ·exact h3
  ·subst q
   rw[b0]at h3;injection h3 with h3;injection h3 with _ h3 _;exact h2 h3.symm
 refine⟨(h.bel.trans hb).setCell h.hgw vn,oth (by decide) (by decide) h.dag,oth (by decide) (by decide) h.crew,h.hgc,hrow,h.hgw,far (by decide) (hr.own h.on (by decide)),far (by decide) (hr.own h.left (by decide)),far (by decide) (hr.own h.tks (by decide)),far (by decide) (hr.own h.frm (by decide)),?_,fun i hi=> ?_,h.a1,h.a2,h.a3,fun i hi=> ?_⟩
 ·have h1:=far (by decide) ho
  have e:flatN (fun i=> [updG Rv j v i,.int .i64 0,.int .i64 0]) (j+1)=flatN (fun i=> [Rv i,.int .i64 0,.int .i64 0]) j++ [v,.int .i64 0,.int .i64 0]:=by
   rw[flatN_succ,updG_at];congr 1;exact flatN_congr fun i hi=>by rw[updG_ne _ _ (by omega)]
  rw[e];exact h1
 ·by_cases e: i = j
  ·subst e;rw[updG_at];exact far (by decide) (hr.own hv (by decide))
  ·rw[updG_ne _ _ e];exact far (by decide) (hr.own (h.ring i (by omega)) (by decide))
 ·by_cases e: i = j
  ·subst e;rw[updG_at];exact av
  ·rw[updG_ne _ _ e];exact h.a4 i (by omega)
end
theorem made_flat(m:Nat):(List.range (m * 6)).map (fun i=>(cT (newTk false)).toArray[i%6]!)=flatN (fun _=>cT (newTk false)) m:=by
  induction m with
  |zero=>rfl
  | succ m ih =>
    rw[flatN_succ,<-ih,show(m+1) * 6=m * 6+6 by omega,List.range_add,List.map_append]
    congr 1
    have h: ∀k,k<6->(m * 6+k)%6=k:=fun k hk=>by omega
    rw[List.map_map];have e:(List.range 6).map ((fun i=>(cT (newTk false)).toArray[i%6]!) ∘ fun k=>m * 6+k)=(List.range 6).map (fun k=>(cT (newTk false)).toArray[k]!):=List.map_congr_left fun k hk=>by
      show(cT (newTk false)).toArray[(m * 6+k)%6]! =_
      rw[h k (List.mem_range.mp hk)]
    rw[e];rfl
theorem made_tk(W:World)(m:Nat)(hm:m<=8):(Instr.makeSlice 39 (.int .i64 m) (.int .i64 m)).run Tryz.prog W= .ok (.slice (some ⟨W.heap.size,0,none⟩) m m) (W.alloc (.cells (flatN (fun _=>cT (newTk false)) m).toArray 65)):=by
 obtain⟨i0,hi,hz0,hz1,hz2⟩:=info_partsS (P:=Tryz.prog) (t:=65) (z:=.agg (cT (newTk false)).toArray) (s:=6) (b:=48) (by kernel_rfl)
 have h:=run_make (P:=Tryz.prog) W 39 65 i0 (.agg (cT (newTk false)).toArray) Tryz.underlying39 hi hz0 .i64 .i64 m m (by omega) (by omega) (by rw[hz2];omega) (by omega)
 rw[hz1]at h;rw[h];simp only[Int.toNat_natCast];have e:madeCells (Value.agg (cT (newTk false)).toArray).cells (m * 6)=(flatN (fun _=>cT (newTk false)) m).toArray:=by
  rw[<-made_flat];unfold madeCells;apply Array.ext';rw[Array.toList_map,Array.toList_range];rfl
 rw[e]
theorem own_made(W:World)(base m:Nat)(t:TypeId)(s:Nat)(xs:List Value)(hl:xs.length=m * s)(hb:base<=W.heap.size)(hm:m<=1000):(W.alloc (.cells xs.toArray t)).ownsRow base t s (.slice (some ⟨W.heap.size,0,none⟩) m m) m xs:=
 ⟨hl,.inr ⟨W.heap.size,m,xs.toArray,rfl,hb,heap_alloc_new W _,Nat.le_refl _,by unfold maxLen;omega,by simpa using hl,by rw[<-hl];simp⟩⟩
def PhiB4(b m gc gd:Nat)(vO vL vW vE:Value):Nat->Value->World->Prop
 |0,v,w=>v= .agg #[vO,vL]
 |1,v,w=>v= .int .i64 m
 |2,v,w=> ∃gT,v= .slice (some ⟨gT,0,none⟩) m m/\w.ownsRow b 65 6 (.slice (some ⟨gT,0,none⟩) m m) m (flatN (fun _=>cT (newTk false)) m)
 |3,v,w=>v= .int .i64 m
 |4,v,w=> ∃gF,v= .slice (some ⟨gF,0,none⟩) m m/\OwnI w b (.slice (some ⟨gF,0,none⟩) m m) (List.replicate m 0)
 |5,v,w=> ∃gT gF,v= .agg #[vO,vL,.slice none 0 0,.slice (some ⟨gT,0,none⟩) m m,.slice (some ⟨gF,0,none⟩) m m]/\w.ownsRow b 65 6 (.slice (some ⟨gT,0,none⟩) m m) m (flatN (fun _=>cT (newTk false)) m)/\OwnI w b (.slice (some ⟨gF,0,none⟩) m m) (List.replicate m 0)
 |6,v,w=>v= .agg #[vW,vE]
 |7,v,w=> ∃gT gF,v= .agg #[vO,vL,.slice none 0 0,.slice (some ⟨gT,0,none⟩) m m,.slice (some ⟨gF,0,none⟩) m m,vW,vE]/\w.ownsRow b 65 6 (.slice (some ⟨gT,0,none⟩) m m) m (flatN (fun _=>cT (newTk false)) m)/\OwnI w b (.slice (some ⟨gF,0,none⟩) m m) (List.replicate m 0)
 |8,v,w=> ∃gw gT gF,b<=gw/\v= .pointer (some ⟨gw,0,none⟩)/\RowV gw 73 [vO,vL,.slice none 0 0,.slice (some ⟨gT,0,none⟩) m m,.slice (some ⟨gF,0,none⟩) m m,vW,vE] w/\w.ownsRow b 65 6 (.slice (some ⟨gT,0,none⟩) m m) m (flatN (fun _=>cT (newTk false)) m)/\OwnI w b (.slice (some ⟨gF,0,none⟩) m m) (List.replicate m 0)
 |9,v,w=> ∃gw gT gF,b<=gw/\v= .pointer (some ⟨gw,0,none⟩)/\RowV gw 73 [vO,vL,.slice none 0 0,.slice (some ⟨gT,0,none⟩) m m,.slice (some ⟨gF,0,none⟩) m m,vW,vE] w/\w.ownsRow b 65 6 (.slice (some ⟨gT,0,none⟩) m m) m (flatN (fun _=>cT (newTk false)) m)/\OwnI w b (.slice (some ⟨gF,0,none⟩) m m) (List.replicate m 0)
 |_,_,_=>True
theorem phiB4_below(b m gc gd:Nat)(vO vL vW vE:Value): ∀kq v w w',PhiB4 b m gc gd vO vL vW vE kq v w->Below w.heap.size w w'->PhiB4 b m gc gd vO vL vW vE kq v w':=by
 intro kq v w w' h hb
 match kq,h with
 |0,h=>exact h
 |1,h=>exact h
 |2,h=>exact by obtain⟨q1,e,ho⟩:=h;exact⟨q1,e,own_below ho hb⟩
 |3,h=>exact h
 |4,h=>exact by obtain⟨q1,e,ho⟩:=h;exact⟨q1,e,own_below ho hb⟩
 |5,h=>exact by obtain⟨q1,q2,e,o1,o2⟩:=h;exact⟨q1,q2,e,own_below o1 hb,OwnI.below o2 hb⟩
 |6,h=>exact h
 |7,h=>exact by obtain⟨q1,q2,e,o1,o2⟩:=h;exact⟨q1,q2,e,own_below o1 hb,OwnI.below o2 hb⟩
 |8,h=>exact by obtain⟨q0,q1,q2,hq,e,hr,o1,o2⟩:=h;exact⟨q0,q1,q2,hq,e,hr.below hb hr.lt,own_below o1 hb,OwnI.below o2 hb⟩
 |9,h=>exact by obtain⟨q0,q1,q2,hq,e,hr,o1,o2⟩:=h;exact⟨q0,q1,q2,hq,e,hr.below hb hr.lt,own_below o1 hb,OwnI.below o2 hb⟩
 |kq+10,h=>exact trivial
def PhiB8(gw:Nat)(D:Option Addr)(j cD:Nat)(A:Option Addr)(n c:Nat):Nat->Value->World->Prop
 |0,v,w=>v= .pointer (some ⟨gw,0,none⟩)
 |1,v,w=>v= .pointer (some ⟨gw,0,none⟩)
 |2,v,w=>v= .pointer (some ⟨gw,0,none⟩)
 |3,v,w=>v= .pointer (some ⟨gw,0,none⟩)
 |4,v,w=>v= .pointer (some ⟨gw,2,none⟩)
 |5,v,w=>v= .slice D j cD
 |6,v,w=>v= .agg #[.slice A n c,.int .i64 0,.int .i64 0]
 |7,v,w=>OwnXs 81 (Value.slice D j cD).ownBlock [.slice A n c,.int .i64 0,.int .i64 0] v w
 |_,_,_=>True
theorem phiB8_below{gw:Nat}{D:Option Addr}{j cD:Nat}{A:Option Addr}{n c:Nat}: ∀kq v w w',PhiB8 gw D j cD A n c kq v w->Below w.heap.size w w'->PhiB8 gw D j cD A n c kq v w':=by
 intro kq v w w' h hb
 match kq,h with
 |0,h=>exact h
 |1,h=>exact h
 |2,h=>exact h
 |3,h=>exact h
 |4,h=>exact h
 |5,h=>exact h
 |6,h=>exact h
 |7,h=>exact OwnXs.rx h (.inl hb:RXs 81 w.heap.size (Value.slice D j cD).ownBlock w w')
 |kq+8,h=>exact trivial
def ThtB8(wf w4:World)(gc gw m j:Nat)(vW vE vO vL vT vF:Value)(D:Option Addr)(cD:Nat)(need:List Int)(Rv:Nat->Value)(A:Option Addr)(n c:Nat)(t:Nat)(f:Nat->Value)(w:World):Prop:=
 8<=t/\t<=13/\(t=8->Below w4.heap.size w4 w/\f 44= .slice D j cD/\OwnXs 81 (Value.slice D j cD).ownBlock [.slice A n c,.int .i64 0,.int .i64 0] (f 46) w)/\
  (9<=t->t<=12-> ∃wm,Below w4.heap.size w4 wm/\RXs 81 wf.heap.size (Value.slice D j cD).ownBlock wm w/\Grews 81 wf.heap.size 3 (j+1) (flatN (fun i=> [Rv i,.int .i64 0,.int .i64 0]) j++ [.slice A n c,.int .i64 0,.int .i64 0]) (f 47) w)/\
  (t=10->f 48= .pointer (some ⟨gw,0,none⟩))/\(t=11->f 49= .pointer (some ⟨gw,0,none⟩))/\(t=12->f 50= .pointer (some ⟨gw,2,none⟩))/\
  (t=13-> ∃D2 cD2,BgSt wf gc gw m (j+1) vW vE vO vL vT vF (.slice D2 (j+1) cD2) need (updG Rv j (.slice A n c)) w)
section
variable {AW FE: Option Addr} {nW cW mE dE: Nat} {W: List Int} {E: List (Int × Int)} {N: Option Addr} {nn nc: Nat} {need: List Int}
theorem begin_yes{m:Nat}(wf:World)(hT:DTab wf)(hg:IsG wf AW nW cW FE mE dE W E)(hn:need.length=nn)(hl:nn<=400)(hI:Ints wf wf.heap.size N need)(hN:N=none->nn=0/\nc=0)(he:newE W E need m=0):
    Calls Tryz.prog 29 #[.agg #[.slice AW nW cW, .slice FE mE dE], .slice N nn nc, .int .i64 m] wf fun e w'=>
      ∃gw a,e= .returned (.tuple #[.pointer (some ⟨gw,0,none⟩), .int .i64 0])/\IsWk w' wf.heap.size gw m (newG W.length m E need) need a (.slice AW nW cW) (.slice FE mE dE)/\Below wf.heap.size wf w':=by
  obtain⟨hM,hFo⟩:=newE_zero.mp he;have hm1:1<=m:=by have:=hFo.2.2.1;omega
  have hm8:m<=8:=by have:=hFo.2.2.2;omega
  have HM8:=Lib.hid hm8;have HM1:=Lib.hid hm1;have hW64:W.length<=64:=hM.nodes;have HNW:Hid (need.length=W.length):=Lib.hid hFo.1;have hkC:CrewOk W.length E (List.replicate m (-1)) need:=new_ok hFo.2.1 hm1 hm8 hFo.1;have HKC:=Lib.hid hkC;have HMY:=Lib.hid hM;have HRV:Hid (readyV W E (List.replicate m (-1)) need=nums (readyU W.length E (List.replicate m (-1)) need)):=Lib.hid (by unfold readyV;rw[if_pos (crewE_zero.mpr ⟨hM,hkC⟩)];rfl)
  have HW64:=Lib.hid hW64;obtain⟨vW,hvW⟩: ∃v,v=Value.slice AW nW cW:=⟨_,rfl⟩;obtain⟨vE,hvE⟩: ∃v,v=Value.slice FE mE dE:=⟨_,rfl⟩;have HWE:Hid (vW= .slice AW nW cW/\vE= .slice FE mE dE):=Lib.hid ⟨hvW,hvE⟩;obtain⟨w0,hw0⟩: ∃w0,w0=wf.alloc (.cells #[.slice AW nW cW, .slice FE mE dE] 25):=⟨_,rfl⟩;have HB0:Hid (Below wf.heap.size wf w0):=Lib.hid (by rw[hw0];exact below_alloc _)
  have HD0:Hid (RowV wf.heap.size 25 [vW,vE] w0):=Lib.hid (by rw[hw0,hvW,hvE];exact RowV.new wf _ _)
  have CN:=Lib.hid (pnew_any (nc:=nc) (m:Int) w0 (hg.below HB0.out) hn hl ((hI.below HB0.out).more HB0.out.size) hN);have HE:=Lib.hid he;have HG:=Lib.hid hg;have HT:=Lib.hid hT;have HW:=Lib.hid hw0;have HO0:Hid (newO W E need m=List.replicate m (-1)/\newL W E need m=need):=Lib.hid (by
    unfold newO newL;rw[if_pos he,if_pos he,Int.toNat_natCast];exact⟨rfl,rfl⟩)
  have dd0:w0.cell? ⟨wf.heap.size,0,none⟩=some (.slice AW nW cW):=by rw[<-hvW];exact HD0.out.cell rfl
  have dd1:w0.cell? ⟨wf.heap.size,1,none⟩=some (.slice FE mE dE):=by rw[<-hvE];exact HD0.out.cell rfl
  clear hT hg hI hN hn he hw0 hvW hvE hM hFo hkC hm1 hm8 hW64;go_enter Tryz.func29,Tryz.ntmps29;go_wp2_with fail;rw[<-HW.out];refine CN.out.mono ?_
  rintro e w1 ⟨A1,n1,c1,F1,m1,d1,he,hk,hap,b1⟩;rw[HE.out]at he;subst he;rw[HO0.out.1,HO0.out.2]at hk;obtain⟨w2,hw2⟩: ∃w2,w2=w1.alloc (.cells #[.slice A1 n1 c1, .slice F1 m1 d1] 37):=⟨_,rfl⟩;have HB1:Hid (Below wf.heap.size wf w1):=Lib.hid (HB0.out.trans (b1.mono HB0.out.size));have HB2:Hid (Below wf.heap.size wf w2):=Lib.hid (HB1.out.trans (by rw[hw2];exact(below_alloc _).mono HB1.out.size))
  obtain⟨vO,hvO⟩: ∃v,v=Value.slice A1 n1 c1:=⟨_,rfl⟩;obtain⟨vL,hvL⟩: ∃v,v=Value.slice F1 m1 d1:=⟨_,rfl⟩;have HOV:Hid (vO= .slice A1 n1 c1/\vL= .slice F1 m1 d1):=Lib.hid ⟨hvO,hvL⟩;obtain⟨gc,hgc⟩: ∃g,g=w1.heap.size:=⟨_,rfl⟩;obtain⟨gd,hgd⟩: ∃g,g=wf.heap.size:=⟨_,rfl⟩;have HC2:Hid (RowV gc 37 [vO,vL] w2):=Lib.hid (by rw[hw2,hgc,hvO,hvL];exact RowV.new w1 _ _)
  have hD1:RowV gd 25 [vW,vE] w1:=by rw[hgd];exact HD0.out.below b1 HD0.out.lt
  have HD2:Hid (RowV gd 25 [vW,vE] w2):=Lib.hid (by rw[hw2];exact hD1.alloc _)
  have HON2:Hid (OwnI w2 wf.heap.size vO (List.replicate m (-1))/\OwnI w2 wf.heap.size vL need):=Lib.hid (by
    rw[hvO,hvL,hw2];exact⟨(hk.on.below (below_alloc _)).down HB0.out.size,(hk.left.below (below_alloc _)).down HB0.out.size⟩)
  have HAP:Hid (ApartV vO vL):=Lib.hid (by rw[hvO,hvL];exact hap)
  have HGC:=Lib.hid hgc;have HGD:=Lib.hid hgd;have HW2:=Lib.hid hw2;clear hk hap b1 hw2 hvO hvL hgc hgd hD1 dd0 dd1 CN;go_upto_region 4 with fail;rw[<-HW2.out,<-HGC.out,<-HGD.out];obtain⟨b,hb⟩: ∃b,b=w2.heap.size:=⟨_,rfl⟩;have HBE:=Lib.hid hb;clear hb;refine wp_region_facts' [23,24,25,26,27,28,29,30,31,10] [] [] (by kernel_rfl) (by kernel_rfl) (by kernel_rfl) (by intro d hd;simp at hd⊢;omega) (fun z=>Below w2.heap.size w2 z) (PhiB4 b m gc gd vO vL vW vE)
    (fun z z' h hb=>h.trans (hb.mono h.size)) (phiB4_below b m gc gd vO vL vW vE) ((Below.refl _ _).drew) (fun p hp v w hv=>by cases hp) (fun kq hkq=>by simp at hkq) ?hstep ?hend
  case hstep=>
    intro kq o ho hw a w hI hA hd K hK;obtain⟨ρ,hρ⟩: ∃ρ,a.eval=ρ:=⟨_,rfl⟩;rw[hρ]at hA hd
    match kq,ho with
    | 0, ho =>
      have hoo:=Option.some.inj ho;subst hoo;have h0:w.cell? ⟨gc,0,none⟩=some vO:=(HC2.out.below hI HC2.out.lt).cell rfl
      have h1:w.cell? ⟨gc,1,none⟩=some vL:=(HC2.out.below hI HC2.out.lt).cell rfl
      have hs:=hA.tmp 8 (by decide)
      rw[HOV.out.1]at h0;rw[HOV.out.2]at h1;exact fx_val hK hρ (.agg #[vO,vL]) (by rw[HOV.out.1,HOV.out.2];simp[execOp,hs,h0,h1,go_sem]) rfl
    | 1, ho =>
      have hoo:=Option.some.inj ho;subst hoo;exact fx_val hK hρ (.int .i64 m) (by have h:=hA.tmp 2 (by decide);simp[execOp,h,go_sem]) rfl
    | 2, ho =>
      have hoo:=Option.some.inj ho;subst hoo;have f1:(ρ (.tmp 24))= .int .i64 m:=hd ⟨1, .data⟩ (by simp) (by rfl)
      exact fx_make hK hρ _ _ (by simp[execOp,f1,made_tk w m HM8.out,go_sem];try exact⟨rfl,rfl⟩) ⟨_,rfl,own_made w b m _ 6 _ (flatN_len (fun _=>rfl) m) (HBE.out▸hI.size) (by have:=HM8.out;omega)⟩ (below_alloc _)
    | 3, ho =>
      have hoo:=Option.some.inj ho;subst hoo;exact fx_val hK hρ (.int .i64 m) (by have h:=hA.tmp 2 (by decide);simp[execOp,h,go_sem]) rfl
    | 4, ho =>
      have hoo:=Option.some.inj ho;subst hoo;have f3:(ρ (.tmp 26))= .int .i64 m:=hd ⟨3, .data⟩ (by simp) (by rfl)
      exact fx_make hK hρ _ _ (by simp[execOp,f3,make_intsD m (by have:=HM8.out;omega) w,go_sem];try exact⟨rfl,rfl⟩) ⟨_,rfl,by unfold OwnI;rw[List.length_replicate,List.map_replicate];exact own_made w b m _ 1 _ (by simp) (HBE.out▸hI.size) (by have:=HM8.out;omega)⟩ (below_alloc _)
    | 5, ho =>
      have hoo:=Option.some.inj ho;subst hoo;have f0:(ρ (.tmp 23))= .agg #[vO,vL]:=hd ⟨0, .data⟩ (by simp) (by rfl)
      have f2: ∃gT,(ρ (.tmp 25))= .slice (some ⟨gT,0,none⟩) m m/\w.ownsRow b 65 6 (.slice (some ⟨gT,0,none⟩) m m) m (flatN (fun _=>cT (newTk false)) m):=hd ⟨2, .data⟩ (by simp) (by rfl)
      have f4: ∃gF,(ρ (.tmp 27))= .slice (some ⟨gF,0,none⟩) m m/\OwnI w b (.slice (some ⟨gF,0,none⟩) m m) (List.replicate m 0):=hd ⟨4, .data⟩ (by simp) (by rfl)
      obtain⟨gT,e2,o2⟩:=f2;obtain⟨gF,e4,o4⟩:=f4;exact fx_val hK hρ (.agg #[vO,vL, .slice none 0 0, .slice (some ⟨gT,0,none⟩) m m, .slice (some ⟨gF,0,none⟩) m m]) (by simp[execOp,f0,e2,e4,go_sem]) ⟨gT,gF,rfl,o2,o4⟩
    | 6, ho =>
      have hoo:=Option.some.inj ho;subst hoo;have h0:w.cell? ⟨gd,0,none⟩=some vW:=(HD2.out.below hI HD2.out.lt).cell rfl
      have h1:w.cell? ⟨gd,1,none⟩=some vE:=(HD2.out.below hI HD2.out.lt).cell rfl
      have hs:=hA.tmp 3 (by decide)
      rw[HWE.out.1]at h0;rw[HWE.out.2]at h1;exact fx_val hK hρ (.agg #[vW,vE]) (by rw[HWE.out.1,HWE.out.2];simp[execOp,hs,h0,h1,go_sem]) rfl
    | 7, ho =>
      have hoo:=Option.some.inj ho;subst hoo;have f5: ∃gT gF,(ρ (.tmp 28))= .agg #[vO,vL, .slice none 0 0, .slice (some ⟨gT,0,none⟩) m m, .slice (some ⟨gF,0,none⟩) m m]/\w.ownsRow b 65 6 (.slice (some ⟨gT,0,none⟩) m m) m (flatN (fun _=>cT (newTk false)) m)/\OwnI w b (.slice (some ⟨gF,0,none⟩) m m) (List.replicate m 0):=hd ⟨5, .data⟩ (by simp) (by rfl)
      have f6:(ρ (.tmp 29))= .agg #[vW,vE]:=hd ⟨6, .data⟩ (by simp) (by rfl)
      obtain⟨gT,gF,e5,o2,o4⟩:=f5;exact fx_val hK hρ (.agg #[vO,vL, .slice none 0 0, .slice (some ⟨gT,0,none⟩) m m, .slice (some ⟨gF,0,none⟩) m m,vW,vE]) (by simp[execOp,f6,e5,go_sem]) ⟨gT,gF,rfl,o2,o4⟩
    | 8, ho =>
      have hoo:=Option.some.inj ho;subst hoo;have f7: ∃gT gF,(ρ (.tmp 30))= .agg #[vO,vL, .slice none 0 0, .slice (some ⟨gT,0,none⟩) m m, .slice (some ⟨gF,0,none⟩) m m,vW,vE]/\w.ownsRow b 65 6 (.slice (some ⟨gT,0,none⟩) m m) m (flatN (fun _=>cT (newTk false)) m)/\OwnI w b (.slice (some ⟨gF,0,none⟩) m m) (List.replicate m 0):=hd ⟨7, .data⟩ (by simp) (by rfl)
      obtain⟨gT,gF,e7,o2,o4⟩:=f7;exact fx_make hK hρ (.pointer (some ⟨w.heap.size,0,none⟩)) (w.alloc (.cells ([vO,vL, .slice none 0 0, .slice (some ⟨gT,0,none⟩) m m, .slice (some ⟨gF,0,none⟩) m m,vW,vE]).toArray 73)) (by simp[execOp,e7,go_sem]) ⟨_,gT,gF,(HBE.out▸hI.size),rfl,RowV.new w _ _,own_below o2 (below_alloc _),OwnI.below o4 (below_alloc _)⟩ (below_alloc _)
    | 9, ho =>
      have hoo:=Option.some.inj ho;subst hoo;have f8: ∃gw gT gF,b<=gw/\(ρ (.tmp 31))= .pointer (some ⟨gw,0,none⟩)/\RowV gw 73 [vO,vL, .slice none 0 0, .slice (some ⟨gT,0,none⟩) m m, .slice (some ⟨gF,0,none⟩) m m,vW,vE] w/\w.ownsRow b 65 6 (.slice (some ⟨gT,0,none⟩) m m) m (flatN (fun _=>cT (newTk false)) m)/\OwnI w b (.slice (some ⟨gF,0,none⟩) m m) (List.replicate m 0):=hd ⟨8, .data⟩ (by simp) (by rfl)
      obtain⟨gw,gT,gF,hgw,e8,hr,o2,o4⟩:=f8;exact fx_val hK hρ (.pointer (some ⟨gw,0,none⟩)) (by simp[execOp,e8,go_sem]) ⟨gw,gT,gF,hgw,rfl,hr,o2,o4⟩
    |kq+10,ho=>simp at ho
  case hend=>
    intro vals w3 hI hF;obtain⟨gw,gT,gF,hgw,f9,hr,o1,o2⟩:=hF 9 (by decide)
    replace f9:vals 10= .pointer (some ⟨gw,0,none⟩):=f9;obtain⟨vT,hvT⟩: ∃v,v=Value.slice (some ⟨gT,0,none⟩) m m:=⟨_,rfl⟩;obtain⟨vF,hvF⟩: ∃v,v=Value.slice (some ⟨gF,0,none⟩) m m:=⟨_,rfl⟩;rw[<-hvT,<-hvF]at hr;rw[<-hvT]at o1;rw[<-hvF]at o2;rw[HBE.out]at hgw;have H3:Hid (BgSt wf gc gw m 0 vW vE vO vL vT vF (.slice none 0 0) need (fun _=>undef) w3):=Lib.hid (by
      have hs:=HB2.out.size;have hgw2:wf.heap.size<=gw:=by omega
      refine⟨HB2.out.trans (hI.mono hs),by rw[<-HGD.out];exact HD2.out.below hI HD2.out.lt,HC2.out.below hI HC2.out.lt,by rw[HGC.out];exact HB1.out.size,hr,hgw2,(HON2.out.1.below hI),(HON2.out.2.below hI),own_less o1 (by rw[HBE.out];exact hs),OwnI.down o2 (by rw[HBE.out];exact hs),⟨rfl, .inl ⟨rfl,rfl⟩⟩,fun i hi=>absurd hi (by omega),HAP.out,fun q hq hq2=> ?_,fun q hq hq2=> ?_,fun i hi=>absurd hi (by omega)⟩
      · have h1:=(HON2.out.1.blockLt q hq).2;have h2:=(o2.blockLt q hq2).1;rw[HBE.out]at h2;omega
      · have h1:=(HON2.out.2.blockLt q hq2).2;have h2:=(o2.blockLt q hq).1;rw[HBE.out]at h2;omega)
    have HTF:Hid (vT= .slice (some ⟨gT,0,none⟩) m m/\vF= .slice (some ⟨gF,0,none⟩) m m):=Lib.hid ⟨hvT,hvF⟩;clear hI hF hr o1 o2 hvT hvF hgw;simp only[fillA,fillL,List.contains_cons,List.contains_nil,Nat.reduceBEq,Bool.or_false,Bool.false_or,Bool.or_true,Bool.true_or,cond_true,cond_false,Nat.zero_add,Nat.reduceAdd];rw[f9];clear f9;go_wp2;go_loopw [33] (fun iv wr=> ∃(j:Nat) (D:Option Addr) (cD:Nat) (Rv:Nat->Value),j<=m/\iv= .int .i64 j/\Hid (BgSt wf gc gw m j vW vE vO vL vT vF (.slice D j cD) need Rv wr)) (fun iv _=>m - (intOf iv).toNat)
    case atStart=>exact⟨0,none,0,_,Nat.zero_le _,rfl,H3⟩
    case round=>
      clear H3;obtain⟨j,D,cD,Rv,hj,rfl,HS⟩:=hrel;have hm8:=HM8.out
      by_cases hlt:j<m
      · have CD:=Lib.hid (dnew_any 64 wr (HT.out.via HS.out.bel));go_upto_region 8 with(go_at_call 57;refine CD.out.mono ?_;rintro e w3' ⟨A,n,c,rfl,hq,hb⟩;(have HQ:=Lib.hid hq);(have HB3:=Lib.hid hb);clear hq hb)
        obtain⟨gq,hgq⟩: ∃g,g=w3'.heap.size:=⟨_,rfl⟩;obtain⟨w4,hw4⟩: ∃w4,w4=w3'.alloc (.cells #[.slice A n c, .int .i64 0, .int .i64 0] 81):=⟨_,rfl⟩;have hba:=below_alloc (w:=w3') (.cells #[.slice A n c, .int .i64 0, .int .i64 0] 81);rw[<-hw4]at hba;have HS4:=Lib.hid ((HS.out.next HB3.out).next hba);have HQ4:Hid (RowV gq 81 [.slice A n c, .int .i64 0, .int .i64 0] w4):=Lib.hid (by rw[hgq,hw4];exact RowV.new w3' _ _)
        have hnr:newRd 64=List.replicate 64 0:=by unfold newRd;rw[if_pos (by decide)];rfl
        have HQO:Hid (OwnI w4 wf.heap.size (.slice A n c) (List.replicate 64 0)):=Lib.hid (by rw[<-hnr];exact(HQ.out.1.below hba).down HS.out.bel.size)
        have HQA:Hid (ApartV (.slice A n c) vO/\ApartV (.slice A n c) vF):=Lib.hid (by
          constructor
          · intro q hq hq2;have h1:=(HQ.out.1.blockLt q hq).1;have h2:=(HS.out.on.blockLt q hq2).2;omega
          · intro q hq hq2;have h1:=(HQ.out.1.blockLt q hq).1;have h2:=(HS.out.frm.blockLt q hq2).2;omega)
        rw[<-hw4,<-hgq];clear hba hnr hgq hw4 HQ HS CD;refine wp_region_tail 8 [39,40,41,42,43,44,45,46,47,48,49,50,1000] [0] (by kernel_rfl) (by kernel_rfl) (by intro d hd;simp at hd⊢;omega) (fun z=>Below w4.heap.size w4 z) (PhiB8 gw D j cD A n c) (fun k v=>k=0->v= .pointer (some ⟨gw,0,none⟩)) (ThtB8 wf w4 gc gw m j vW vE vO vL vT vF D cD need Rv A n c)
          (fun z z' h hb=>h.trans (hb.mono h.size)) phiB8_below ((Below.refl _ _).drew) ?hstep ?hloose ?hmid ?htail ?hcon ?hend
        case hstep=>
          intro kq o hkm hkF ho a1 w hI hA hd K hK;obtain⟨ρ,hρ⟩: ∃ρ,a1.eval=ρ:=⟨_,rfl⟩;rw[hρ]at hA hd
          match kq,hkm,hkF,ho with
          |0,_,hkF,_=>exact absurd (by decide) hkF
          | 1, _, _, ho =>
            have hoo:=Option.some.inj ho;subst hoo;exact fx_val hK hρ (.pointer (some ⟨gw,0,none⟩)) (by have h:=hA.tmp 10 (by decide);simp[execOp,h,go_sem]) rfl
          | 2, _, _, ho =>
            have hoo:=Option.some.inj ho;subst hoo;have f1:ρ (.tmp 40)= .pointer (some ⟨gw,0,none⟩):=hd ⟨1, .data⟩ (by simp) (by rfl) (by decide)
            exact fx_val hK hρ (.pointer (some ⟨gw,0,none⟩)) (by simp[execOp,f1,go_sem]) rfl
          | 3, _, _, ho =>
            have hoo:=Option.some.inj ho;subst hoo;have f2:ρ (.tmp 41)= .pointer (some ⟨gw,0,none⟩):=hd ⟨2, .data⟩ (by simp) (by rfl) (by decide)
            exact fx_val hK hρ (.pointer (some ⟨gw,0,none⟩)) (by simp[execOp,f2,go_sem]) rfl
          | 4, _, _, ho =>
            have hoo:=Option.some.inj ho;subst hoo;have f3:ρ (.tmp 42)= .pointer (some ⟨gw,0,none⟩):=hd ⟨3, .data⟩ (by simp) (by rfl) (by decide)
            exact fx_val hK hρ (.pointer (some ⟨gw,2,none⟩)) (by simp[execOp,f3,go_sem]) rfl
          | 5, _, _, ho =>
            have hoo:=Option.some.inj ho;subst hoo;have f4:ρ (.tmp 43)= .pointer (some ⟨gw,2,none⟩):=hd ⟨4, .data⟩ (by simp) (by rfl) (by decide)
            have h0:w.cell? ⟨gw,2,none⟩=some (.slice D j cD):=(HS4.out.next hI).row.cell rfl
            exact fx_val hK hρ (.slice D j cD) (by simp[execOp,f4,h0,go_sem]) rfl
          | 6, _, _, ho =>
            have hoo:=Option.some.inj ho;subst hoo;have h0:w.cell? ⟨gq,0,none⟩=some (.slice A n c):=(HQ4.out.below hI HQ4.out.lt).cell rfl
            have h1:w.cell? ⟨gq,1,none⟩=some (.int .i64 0):=(HQ4.out.below hI HQ4.out.lt).cell rfl
            have h2:w.cell? ⟨gq,2,none⟩=some (.int .i64 0):=(HQ4.out.below hI HQ4.out.lt).cell rfl
            have hs:=hA.tmp 11 (by decide)
            exact fx_val hK hρ (.agg #[.slice A n c, .int .i64 0, .int .i64 0]) (by simp[execOp,hs,h0,h1,h2,go_sem]) rfl
          | 7, _, _, ho =>
            have hoo:=Option.some.inj ho;subst hoo;have f6:ρ (.tmp 45)= .agg #[.slice A n c, .int .i64 0, .int .i64 0]:=hd ⟨6, .data⟩ (by simp) (by rfl) (by decide)
            exact fx_make hK hρ (.slice (some ⟨w.heap.size,0,none⟩) 1 1) (w.alloc (.cells #[.slice A n c, .int .i64 0, .int .i64 0] 81)) (by simp[execOp,f6,go_sem]) ⟨w.heap.size,rfl,heap_alloc_new w _,fun e=>by have:=(row_lts (HS4.out.next hI).dqs _ e).2.1;omega⟩ (below_alloc _)
          |kq+8,h,_,_=>exact absurd h (by omega)
        case hloose=>
          intro kq o hkF ho ρ w hA hd;simp only[List.mem_cons,List.not_mem_nil,or_false]at hkF;subst hkF;have hoo:=Option.some.inj ho;subst hoo;exact⟨_,by have h:=hA.tmp 10 (by decide);simp[execOp,h,go_sem],fun _=>rfl⟩
        case hmid=>
          intro vals w hI hF;exact⟨Nat.le_refl _,by decide,fun _=>⟨hI,hF 5 (by decide) (by decide),hF 7 (by decide) (by decide)⟩,fun h=>absurd h (by decide),fun h=>absurd h (by decide),fun h=>absurd h (by decide),fun h=>absurd h (by decide),fun h=>absurd h (by decide)⟩
        case htail=>
          intro t o htm ho a1 w hA hT hL K hK;have htl:t<13:=(Array.getElem?_eq_some_iff.1 ho).1
          obtain⟨ρ,hρ⟩: ∃ρ,a1.eval=ρ:=⟨_,rfl⟩;rw[hρ]at hA
          try rw[hρ]at hL
          obtain rfl|rfl|rfl|rfl|rfl:t=8\/t=9\/t=10\/t=11\/t=12:=by omega
          · have hoo:=Option.some.inj ho;subst hoo;obtain⟨t1,t2,h8,h9,h10,h11,h12,h13⟩:=hT;simp only[hρ]at h8 h9 h10 h11 h12;obtain⟨hbl,g0,hx⟩:=h8 (by first|rfl|trivial|decide)
            obtain⟨yv,hyv⟩: ∃yv,ρ (.tmp 46)=yv:=⟨_,rfl⟩;rw[hyv]at hx;have hSw:=HS4.out.next hbl;obtain⟨v',w',hrun,hgr,hrx,hat⟩:=ownXs_append (tl:=38) (bytes:=40) (z:= .agg #[.slice none 0 0, .int .i64 0, .int .i64 0]) Tryz.underlying38 (by kernel_rfl) rfl (by decide) (by decide) hSw.dqs hx rfl (by simp[Value.oneCell']) (by omega) hSw.bel.size
            unfold Oper.wp;rw[show(execOp a1.eval _).run Tryz.prog w= .ok (.value v') w' from by rw[hρ];exact exec_append (.tmp 44) (.tmp 46) 38 _ _ rfl g0 hyv hrun,Oper.upon_value]
            refine hK _ _ ⟨by decide,by decide,?_⟩
            simp only[Option.some.injEq,Nat.reduceEqDiff,if_false,if_true,reduceCtorEq,hρ];exact⟨fun h=>absurd h (by decide),fun _ _=>⟨w,hbl,hrx,hgr⟩,fun h=>absurd h (by decide),fun h=>absurd h (by decide),fun h=>absurd h (by decide),fun h=>absurd h (by decide)⟩
          · have hoo:=Option.some.inj ho;subst hoo;obtain⟨t1,t2,h8,h9,h10,h11,h12,h13⟩:=hT;simp only[hρ]at h8 h9 h10 h11 h12;have hp39:ρ (.tmp 39)= .pointer (some ⟨gw,0,none⟩):=hL ⟨0, .data⟩ (by simp) (by rfl) (by simp) rfl
            unfold Oper.wp;rw[show(execOp a1.eval _).run Tryz.prog w= .ok (.value (.pointer (some ⟨gw,0,none⟩))) (w)from by rw[hρ];simp[execOp,hp39,go_sem],Oper.upon_value]
            refine hK _ _ ⟨by decide,by decide,?_⟩
            simp only[Option.some.injEq,Nat.reduceEqDiff,if_false,if_true,reduceCtorEq,hρ];exact⟨fun h=>absurd h (by decide),fun _ _=>h9 (by decide) (by decide),fun _=>rfl,fun h=>absurd h (by decide),fun h=>absurd h (by decide),fun h=>absurd h (by decide)⟩
          · have hoo:=Option.some.inj ho;subst hoo;obtain⟨t1,t2,h8,h9,h10,h11,h12,h13⟩:=hT;simp only[hρ]at h8 h9 h10 h11 h12;have hp:=h10 (by first|rfl|trivial|decide)
            unfold Oper.wp;rw[show(execOp a1.eval _).run Tryz.prog w= .ok (.value (.pointer (some ⟨gw,0,none⟩))) (w)from by rw[hρ];simp[execOp,hp,go_sem],Oper.upon_value]
            refine hK _ _ ⟨by decide,by decide,?_⟩
            simp only[Option.some.injEq,Nat.reduceEqDiff,if_false,if_true,reduceCtorEq,hρ];exact⟨fun h=>absurd h (by decide),fun _ _=>h9 (by decide) (by decide),fun h=>absurd h (by decide),fun _=>rfl,fun h=>absurd h (by decide),fun h=>absurd h (by decide)⟩
          · have hoo:=Option.some.inj ho;subst hoo;obtain⟨t1,t2,h8,h9,h10,h11,h12,h13⟩:=hT;simp only[hρ]at h8 h9 h10 h11 h12;have hp:=h11 (by first|rfl|trivial|decide)
            unfold Oper.wp;rw[show(execOp a1.eval _).run Tryz.prog w= .ok (.value (.pointer (some ⟨gw,2,none⟩))) (w)from by rw[hρ];simp[execOp,hp,go_sem],Oper.upon_value]
            refine hK _ _ ⟨by decide,by decide,?_⟩
            simp only[Option.some.injEq,Nat.reduceEqDiff,if_false,if_true,reduceCtorEq,hρ];exact⟨fun h=>absurd h (by decide),fun _ _=>h9 (by decide) (by decide),fun h=>absurd h (by decide),fun h=>absurd h (by decide),fun _=>rfl,fun h=>absurd h (by decide)⟩
          · have hoo:=Option.some.inj ho;subst hoo;obtain⟨t1,t2,h8,h9,h10,h11,h12,h13⟩:=hT;simp only[hρ]at h8 h9 h10 h11 h12;have hp:=h12 (by first|rfl|trivial|decide)
            obtain⟨wm,hbl,hrx,D2,cD2,e47,ho2⟩:=h9 (by decide) (by decide)
            have hSm:=HS4.out.next hbl;have hS:=hSm.push ((HQO.out).below hbl) HQA.out hrx ho2;have hrw:=hrx.rowV hSm.row (by decide)
            have y0:=hrw.cell (j:=2) rfl;have z0:=hrw.frozen 2;unfold Oper.wp;rw[show(execOp a1.eval _).run Tryz.prog w= .ok .skip (w.setCell ⟨gw,2,none⟩ (.slice D2 (j+1) cD2))from by rw[hρ];simp[execOp,hp,y0,z0,e47,go_sem],Oper.upon_skip]
            refine hK undef _ ⟨by decide,by decide,?_⟩
            simp only[Option.some.injEq,Nat.reduceEqDiff,if_false,if_true,reduceCtorEq,hρ];exact⟨fun h=>absurd h (by decide),fun _ h=>absurd h (by decide),fun h=>absurd h (by decide),fun h=>absurd h (by decide),fun h=>absurd h (by decide),fun _=>⟨D2,cD2,hS⟩⟩
        case hcon=>
          intro t f g w h hT;obtain⟨t1,t2,h8,h9,h10,h11,h12,h13⟩:=hT;refine⟨t1,t2,fun e=> ?_,fun e e2=> ?_,fun e=> ?_,fun e=> ?_,fun e=> ?_,h13⟩
          · have q44:=h 5 (by omega) (by simp)
            have q46:=h 7 (by omega) (by simp)
            simp only[List.getD_cons_zero,List.getD_cons_succ]at q44 q46;rw[<-q44,<-q46];exact h8 e
          · have q47:=h 8 (by omega) (by simp)
            simp only[List.getD_cons_zero,List.getD_cons_succ]at q47;rw[<-q47];exact h9 e e2
          · have q:=h 9 (by omega) (by simp)
            simp only[List.getD_cons_zero,List.getD_cons_succ]at q;rw[<-q];exact h10 e
          · have q:=h 10 (by omega) (by simp)
            simp only[List.getD_cons_zero,List.getD_cons_succ]at q;rw[<-q];exact h11 e
          · have q:=h 11 (by omega) (by simp)
            simp only[List.getD_cons_zero,List.getD_cons_succ]at q;rw[<-q];exact h12 e
        case hend=>
          intro vals w9 hT;obtain⟨_,_,_,_,_,_,_,h13⟩:=hT;obtain⟨D2,cD2,hS⟩:=h13 rfl;have HS9:=Lib.hid hS;clear h13 hS;simp only[fillA,fillL,List.contains_cons,List.contains_nil,Nat.reduceBEq,Bool.or_false,Bool.false_or,Bool.or_true,Bool.true_or,cond_true,cond_false,Nat.zero_add,Nat.reduceAdd];go_wp2_with fail;go_roundw
          case rel=>exact⟨j+1,D2,cD2,_,by omega,by go_num,HS9⟩
          case measure=>simp[intOf];omega
      · obtain rfl:m=j:=by omega
        clear hlt hj;have hm1:=HM1.out;have hS:=HS.out;obtain⟨gD,rfl⟩: ∃g,D=some ⟨g,0,none⟩:=by
          rcases hS.dqs.2 with⟨e,hx⟩|⟨g,cap,cur,e,_⟩
          · injection e with _ e2 _;omega
          · injection e with e1 _ _;exact⟨g,e1⟩
        obtain⟨gO,cO,hvO⟩: ∃g c,vO= .slice (some ⟨g,0,none⟩) m c:=by
          rcases hS.on.2 with⟨e,hx⟩|⟨g,cap,cur,e,_⟩
          · simp at hx;omega
          · exact⟨g,cap,by rw[e,List.length_replicate]⟩
        obtain⟨gT,gF,hTF⟩: ∃gT gF,vT= .slice (some ⟨gT,0,none⟩) m m/\vF= .slice (some ⟨gF,0,none⟩) m m:=⟨gT,gF,HTF.out⟩;have HG0:Hid (IsGng wr wf.heap.size m (emptyG m) need ⟨gO,cO,vL,gD,cD,gT,m,gF,m,Rv⟩):=Lib.hid (by
          have e0:frL m (emptyG m)=List.replicate m 0:=by
            refine List.eq_replicate_iff.mpr ⟨frL_len _ _,fun z hz=> ?_⟩
            unfold frL at hz;obtain⟨i,_,rfl⟩:=List.mem_map.mp hz;rfl
          refine⟨List.length_replicate,?_,hS.left,hS.dqs,?_,?_,hS.ring,?_,?_,fun i hi=> ?_,?_,fun i hi=> ?_⟩
          · have h:=hS.on;rw[hvO]at h;exact h
          · have h:=hS.tks;rw[hTF.1]at h;exact h
          · have h:=hS.frm;rw[hTF.2,<-e0]at h;exact h
          · exact fun _ q=>hS.a1 gO (by rw[hvO];rfl) q
          · exact fun q=>hS.a2 gO (by rw[hvO];rfl) (by rw[hTF.2];exact congrArg some q)
          · exact fun q=>(hS.a4 i hi).1 gO q (by rw[hvO];rfl)
          · exact fun q=>hS.a3 gF (by rw[hTF.2];rfl) q
          · exact fun q=>(hS.a4 i hi).2 gF q (by rw[hTF.2];rfl))
        obtain⟨a0,ha0⟩: ∃a0:GAd,a0=⟨gO,cO,vL,gD,cD,gT,m,gF,m,Rv⟩:=⟨_,rfl⟩;rw[<-ha0]at HG0;have HWK:Hid (IsWk wr wf.heap.size gw m (emptyG m) need a0 vW vE):=Lib.hid ⟨by
          have h:=hS.row;rw[hvO,hTF.1,hTF.2]at h;rw[ha0];exact h,hS.hgw,HG0.out⟩
        obtain⟨AL,nL,cL,hvL⟩: ∃AL nL cL,vL= .slice AL nL cL:=⟨F1,m1,d1,HOV.out.2⟩;have hC0:IsC wr (some ⟨gO,0,none⟩) m cO AL nL cL (List.replicate m (-1)) need:=by
          obtain⟨AL',cL',e,hc⟩:=HG0.out.crew hm8 (by have:=HNW.out;have:=HW64.out;omega)
          rw[ha0]at hc e;replace e:vL= .slice AL' need.length cL':=e;rw[hvL]at e;injection e with e1 e2 e3;subst e1 e2 e3;exact hc
        have x0:wr.cell? ⟨gd,0,none⟩=some (.slice AW nW cW):=by rw[<-HWE.out.1,HGD.out];exact hS.dag.cell rfl
        have x1:wr.cell? ⟨gd,1,none⟩=some (.slice FE mE dE):=by rw[<-HWE.out.2,HGD.out];exact hS.dag.cell rfl
        have y0:wr.cell? ⟨gc,0,none⟩=some (.slice (some ⟨gO,0,none⟩) m cO):=by rw[<-hvO];exact hS.crew.cell rfl
        have y1:wr.cell? ⟨gc,1,none⟩=some (.slice AL nL cL):=by rw[<-hvL];exact hS.crew.cell rfl
        obtain⟨lz,hlz⟩: ∃lz,lz=readyU W.length E (List.replicate m (-1)) need:=⟨_,rfl⟩;have hcz:crewE W E (List.replicate m (-1)) need=0:=crewE_zero.mpr ⟨HMY.out,HKC.out⟩;have CR:=cready_own wr hcz (HG.out.below hS.bel) hC0;rw[HRV.out,<-hlz]at CR;have HCR:=Lib.hid CR;have HLZ:=Lib.hid hlz;have HBR:=Lib.hid hS.bel;have HA0D:Hid (a0.gD=gD):=Lib.hid (by rw[ha0])
        have hgDlt:gD<wr.heap.size:=by have:=HG0.out.lts.2.1.2;rw[ha0]at this;exact this
        have HGDL:=Lib.hid hgDlt;clear hS hvO hvL hTF hC0 hcz CR hlz ha0 HS hgDlt
        go_wp2_with(go_at_call 59;refine HCR.out.mono ?_;rintro e w5 ⟨A5,c5,rfl,ho5,hb5⟩;(have HO5:=Lib.hid ho5);(have HB5:=Lib.hid hb5);clear ho5 hb5 HCR x0 x1 y0 y1)
        have hnd:lz.Nodup:=by rw[HLZ.out];exact List.nodup_range.filter _
        have hlt: ∀y∈lz,y<W.length:=fun y hy=>(mem_readyU.mp (HLZ.out▸hy)).1
        have hzl:(nums lz).length<=1000:=by
          have h1:=nodup_few hnd hlt;have:=HW64.out;unfold nums;rw[List.length_map];omega
        refine(each_any A5 c5 (nums lz).length w5.heap.size (nums lz) 60 (.pointer (some ⟨gw,0,none⟩)) (eg_of Tryz.func60 (by kernel_rfl) rfl)
          (fun k z=> ∃ak,IsWk z wf.heap.size gw m (dealG m (emptyG m) (lz.take k)) need ak vW vE/\ak.gD=gD/\Kp [gD] w5 z) rfl hzl ?_ ?_ w5 ⟨a0,HWK.out.below HB5.out,HA0D.out,Kp.of_below (Below.refl _ _) _⟩).mono ?_
        · rintro k z ⟨ak,_,_,hkp⟩;have hO:OwnI z wr.heap.size (.slice A5 (nums lz).length c5) (nums lz):=hkp.own HO5.out (fun b hb q=>by
            have h1:=(HO5.out.blockLt b hb).1;have:=HGDL.out;simp at q;omega)
          rcases HO5.out.2 with⟨e,hx⟩|⟨g,cap,cur,e,hg,hgg,rest⟩
          · have:nums lz= []:=by simpa using hx
            rw[this];exact Ints.nil_ _ _ _
          · injection e with e1 e2 e3;subst e1;have hgl:g<w5.heap.size:=(Array.getElem?_eq_some_iff.1 hgg).1
            intro hn;obtain⟨b,off,e4,_,hcl⟩:=hO.ints hn;injection e4 with e4;injection e4 with e4 e5;subst e4 e5;exact⟨g,0,rfl,hgl,hcl⟩
        · rintro k x z hx ⟨ak,hwk,hgd,hkp⟩;unfold nums at hx;rw[List.getElem?_map]at hx
          obtain⟨y,hy,rfl⟩: ∃y,lz[k]? =some y/\(y:Int)=x:=by
            cases h:lz[k]? with
            |none=>rw[h]at hx;cases hx
            |some y=>rw[h]at hx;exact⟨y,rfl,Option.some.inj hx⟩
          obtain⟨r1,r2⟩:=deal_room HM1.out HW64.out hnd hlt hy;have hbz:Below wf.heap.size wf z:=HBR.out.trans ((HB5.out.mono HBR.out.size).trans (hkp.below (by
            have h1:=hwk.gng.lts.2.1.1;rw[hgd]at h1
            simpa using h1) (Nat.le_trans HBR.out.size HB5.out.size)))
          refine(deal_any z HM1.out HM8.out (HT.out.via hbz) hwk r1 r2).mono ?_
          rintro e z' ⟨rfl,v,hwk',hkp'⟩;rw[hgd]at hkp';refine⟨rfl,{ak with Rv:=updG ak.Rv (y%m) v},by rw[dealG_take m _ lz hy];exact hwk',hgd,hkp.trans hkp'⟩
        · rintro e w6 ⟨rfl,ak,hwk,hgd,hkp⟩;have hnl:(nums lz).length=lz.length:=by unfold nums;rw[List.length_map]
          rw[hnl,List.take_length]at hwk;have HWK6:=Lib.hid hwk;have HK6:=Lib.hid hkp;have HGD6:=Lib.hid hgd;clear hwk hkp hgd hnl hzl hlt hnd HWK HG0;go_wp2;refine bodyPost_ret (v:= .tuple #[.pointer (some ⟨gw,0,none⟩), .int .i64 0]) (by simp[results,Tryz.results29,go_sem]) rfl ?_
          refine⟨gw,ak,rfl,?_,?_⟩
          · rw[<-HWE.out.1,<-HWE.out.2];unfold newG;rw[<-HLZ.out];exact HWK6.out
          · refine HBR.out.trans ((HB5.out.mono HBR.out.size).trans (HK6.out.below (by
              have h1:=HWK6.out.gng.lts.2.1.1;rw[HGD6.out]at h1
              simpa using h1) (Nat.le_trans HBR.out.size HB5.out.size)))
theorem begin_no{cores z:Int}(wf:World)(hg:IsG wf AW nW cW FE mE dE W E)(hn:need.length=nn)(hl:nn<=400)(hI:Ints wf wf.heap.size N need)(hN:N=none->nn=0/\nc=0)(hz:newE W E need cores=z)(h0:z≠0):
  Calls Tryz.prog 29 #[.agg #[.slice AW nW cW,.slice FE mE dE],.slice N nn nc,.int .i64 cores] wf fun e w'=>
   e= .returned (.tuple #[.pointer none,.int .i64 z])/\Below wf.heap.size wf w':=by
 obtain⟨w0,hw0⟩: ∃w0,w0=wf.alloc (.cells #[.slice AW nW cW,.slice FE mE dE] 25):=⟨_,rfl⟩;have HB0:Hid (Below wf.heap.size wf w0):=Lib.hid (by rw[hw0];exact below_alloc _)
 have hD0:RowV wf.heap.size 25 [.slice AW nW cW,.slice FE mE dE] w0:=by rw[hw0];exact RowV.new wf _ _
 have CN:=Lib.hid (pnew_any (nc:=nc) cores w0 (hg.below HB0.out) hn hl ((hI.below HB0.out).more HB0.out.size) hN);have HZ:=Lib.hid hz;have HW:=Lib.hid hw0;have dd0:w0.cell? ⟨wf.heap.size,0,none⟩=some (.slice AW nW cW):=hD0.cell rfl
 have dd1:w0.cell? ⟨wf.heap.size,1,none⟩=some (.slice FE mE dE):=hD0.cell rfl
 have h0b:(z !=0)=true:=bne_iff_ne.mpr h0;clear hg hI hN hn hw0 hz hD0 h0;go_enter Tryz.func29,Tryz.ntmps29;go_wp2_with fail;rw[<-HW.out];refine CN.out.mono ?_
 rintro e w1 ⟨A1,n1,c1,F1,m1,d1,he,hk,hap,b1⟩;rw[HZ.out]at he;subst he;have HB1:Hid (Below wf.heap.size wf (w1.alloc (.cells #[.slice A1 n1 c1,.slice F1 m1 d1] 37))):=Lib.hid ((HB0.out.trans (b1.mono HB0.out.size)).trans ((below_alloc _).mono (HB0.out.trans (b1.mono HB0.out.size)).size));clear hk hap b1 CN;go_wp2;refine bodyPost_ret (v:=.tuple #[.pointer none,.int .i64 z]) (by simp[results,Tryz.results29,go_sem]) rfl ⟨rfl,HB1.out⟩
end
end Go.Proofs.YtngdbbligebcbabGreatDoor
