import Derived.Test.YtlfekmbalgkmeaaGreatDoorZM15
import Derived.Laws.ResultCell
import Derived.Test.YtlfekmbalgkmeaaGreatDoorZM1
set_option linter.unusedSimpArgs false
set_option linter.unnecessarySimpa false
set_option linter.unusedVariables false
set_option maxRecDepth 100000
set_option maxHeartbeats 8000000
namespace Go.Proofs.YtlfekmbalgkmeaaGreatDoor
open Go.RowKit
structure OutR(base:Nat)(p q:Int)(T:Task)(g:Nat)(u1 u2 u3 u4:Value)(w:World):Prop where
 row:w.heap[g]? =some (.cells #[.int .i64 p,.int .i64 q,u1,u2,u3,u4] 57 (0,0))
 parts:OwnT 62 w base u1 T.parts
 edges:OwnE w base u2 T.edges
 futures:OwnT 156 w base u3 T.futures
 le:base<=g
 lt: ∀b,u4.ownBlock=some b->b<w.heap.size
theorem OutR.rb{base:Nat}{p q:Int}{T:Task}{g:Nat}{u1 u2 u3 u4:Value}{w w':World}(h:OutR base p q T g u1 u2 u3 u4 w)(hr:RB base u4.ownBlock w w'):OutR base p q T g u1 u2 u3 u4 w':=
 ⟨hr.heap h.row (by decide),hr.own h.parts (by decide),hr.own h.edges (by decide),hr.own h.futures (by decide),h.le,fun b hb=>Nat.lt_of_lt_of_le (h.lt b hb) hr.size⟩
def OwnPair(base:Nat)(xs ys:List Int)(v:Value)(w:World):Prop:=∃ v1 v2,v= .agg #[v1,v2]/\OwnI w base v1 xs/\OwnI w base v2 ys
theorem OwnPair.rb{base:Nat}{row:Option Nat}{xs ys:List Int}{v:Value}{w w':World}(h:OwnPair base xs ys v w)(hr:RB base row w w'):OwnPair base xs ys v w':=by
 obtain⟨v1,v2,e,h1,h2⟩:=h;exact⟨v1,v2,e,hr.own h1 (by decide),hr.own h2 (by decide)⟩
theorem NewRow.rb{base:Nat}{row:Option Nat}{v:Value}{w w':World}(h:NewRow 3 w base v)(hr:RB base row w w'):NewRow 3 w' base v:=by
 obtain⟨g,e,hg,hl⟩:=h;exact⟨g,e,hr.heap hg (by decide),hl⟩
def OwnG(g b base:Nat)(u4:Value)(R:Option Addr)(nr rc bk off j:Nat)(A1:Option Addr)(n1 c1:Nat)(A2:Option Addr)(n2 c2:Nat)(xs ys:List Int)(bs:List (List Int×List Int)):Nat->Value->World->Prop
 |0,v,_=>v= .pointer (some ⟨g,5,none⟩)
 |1,v,_=>v=u4
 |2,v,w=>NewRow 3 w base v
 |3,v,_=>v= .pointer (some ⟨b,5,none⟩)
 |4,v,_=>v= .slice R nr rc
 |5,v,_=>v= .int .i64 j
 |6,v,_=>v= .pointer (some ⟨bk,off+j * 2,none⟩)
 |7,v,_=>v= .pointer (some ⟨bk,off+j * 2,none⟩)
 |8,v,_=>v= .slice A1 n1 c1
 |9,v,w=>OwnI w base v xs
 |10,v,w=>NewRow 3 w base v
 |11,v,_=>v= .pointer (some ⟨b,5,none⟩)
 |12,v,_=>v= .slice R nr rc
 |13,v,_=>v= .int .i64 j
 |14,v,_=>v= .pointer (some ⟨bk,off+j * 2,none⟩)
 |15,v,_=>v= .pointer (some ⟨bk,off+j * 2+1,none⟩)
 |16,v,_=>v= .slice A2 n2 c2
 |17,v,w=>OwnI w base v ys
 |18,v,w=>OwnPair base xs ys v w
 |19,v,w=>OwnElem base u4.ownBlock xs ys v w
 |20,v,w=>OwnB w base v (bs++ [(xs,ys)])
 |21,v,_=>v= .pointer (some ⟨g,5,none⟩)
 |_,_,_=>True
section
variable {g b base: Nat} {u4: Value} {R: Option Addr} {nr rc bk off j: Nat} {A1: Option Addr} {n1 c1: Nat} {A2: Option Addr} {n2 c2: Nat} {xs ys: List Int} {bs: List (List Int × List Int)}
theorem ownG_rb: ∀(k:Nat) (v:Value) (w w':World),k≠20->OwnG g b base u4 R nr rc bk off j A1 n1 c1 A2 n2 c2 xs ys bs k v w->RB base u4.ownBlock w w'->OwnG g b base u4 R nr rc bk off j A1 n1 c1 A2 n2 c2 xs ys bs k v w'
 |0,_,_,_,_,h,_|1,_,_,_,_,h,_|3,_,_,_,_,h,_|4,_,_,_,_,h,_|5,_,_,_,_,h,_|6,_,_,_,_,h,_|7,_,_,_,_,h,_|8,_,_,_,_,h,_|11,_,_,_,_,h,_|12,_,_,_,_,h,_|13,_,_,_,_,h,_|14,_,_,_,_,h,_|15,_,_,_,_,h,_|16,_,_,_,_,h,_|21,_,_,_,_,h,_=>h
 |2,_,_,_,_,h,hr=>NewRow.rb h hr
 |10,_,_,_,_,h,hr=>NewRow.rb h hr
 |9,_,_,_,_,h,hr=>RB.own hr h (by decide)
 |17,_,_,_,_,h,hr=>RB.own hr h (by decide)
 |18,_,_,_,_,h,hr=>OwnPair.rb h hr
 |19,_,_,_,_,h,hr=>OwnElem.rb h hr
 |20,_,_,_,hne,_,_=>absurd rfl hne
 |_+22,_,_,_,_,_,_=>trivial
end
theorem own_last2{o:Oper}{a:Act}{x:World}{base:Nat}{p q:Int}{T:Task}{g:Nat}{u1 u2 u3 u4:Value}{bs:List (List Int×List Int)}{K:Act->World->Prop}{Q:Exit->Act->World->Prop}(s y:Operand)(hop:o.op= .store 55 s y)(hdst:o.dst=none)
  (hO:OutR base p q T g u1 u2 u3 u4 x) (f20:OwnB x base (a.eval y) bs) (f21:a.eval s= .pointer (some ⟨g,5,none⟩)) (hK: ∀u x',a.eval y=u->OutR base p q T g u1 u2 u3 u x'->OwnB x' base u bs->Below base x x'->K a x'):o.wp Tryz.prog a x K Q:=by
 have hg:=hO.row;have d5:=cell_of_row x g 5 _ _ _ hg;have z5:=frozen_of_row x g 5 _ _ hg;simp at d5;have hlt:g<x.heap.size:=(Array.getElem?_eq_some_iff.1 hg).1
 have hBl:=f20.lt;obtain⟨cs,hc1,hc2,hc3⟩:=f20;obtain⟨A,c,e⟩: ∃A c,a.eval y= .slice A bs.length c:=by
  rcases hc2.2 with⟨h1,h2⟩|⟨g',cap,cur,h1,_⟩
  ·exact⟨none,0,by rw[h1,h2]⟩
  ·exact⟨_,_,h1⟩
 obtain⟨x',hx'⟩: ∃x',x'=x.setCell ⟨g,5,none⟩ (.slice A bs.length c):=⟨_,rfl⟩;have hr:(execOp a.eval o).run Tryz.prog x= .ok .skip x':=by
  rw[hx'];simp only[execOp,hop];rw[e,f21];simp[go_sem,d5,z5]
 have h6:=heap_setCell_same x g 5 _ _ (.slice A bs.length c) hg;rw[<-hx']at h6;have ho: ∀k,k≠g->x'.heap[k]? =x.heap[k]?:=fun k hk=>by rw[hx',heap_setCell_other _ _ _ _ hk]
 have hb:Below base x x':=by rw[hx'];exact(Below.refl base x).setCell hO.le _
 unfold Oper.wp;rw[hr,Oper.upon_skip,hdst];rw[e]at hc2 hBl;refine hK _ x' e ⟨h6,other_own hO.parts hg (by decide) ho,other_own hO.edges hg (by decide) ho,other_own hO.futures hg (by decide) ho,hO.le,fun b' hb'=> ?_⟩ ⟨cs,hc1,other_own hc2 hg (by decide) ho,fun k c' b' h1 h2=>⟨other_own (hc3 k c' b' h1 h2).1 hg (by decide) ho,other_own (hc3 k c' b' h1 h2).2 hg (by decide) ho⟩⟩ hb
 exact Nat.lt_of_lt_of_le (hBl b' hb').2.1 hb.size
def GotD(p q:Int)(T:Task)(w:World)(e:Ending)(w':World):Prop:=
 ∃u1 u2 u3 u4,e= .returned (.agg #[.int .i64 p,.int .i64 q,u1,u2,u3,u4])/\OwnT 62 w' w.heap.size u1 T.parts/\OwnE w' w.heap.size u2 T.edges/\OwnT 156 w' w.heap.size u3 T.futures/\OwnB w' w.heap.size u4 T.bars/\Below w.heap.size w w'
theorem down_any(s:Sh)(T:Task)(w:World)(hF:FewT T)(hT:IsT w w.heap.size s T):
    Calls Tryz.prog 30 #[s.arg T.period T.deadline] w (GotD T.period T.deadline T w):=by
  obtain⟨P,np,pc,E,ne,ec,F,nf,fc,R,nr,rc⟩:=s;have HT:=Lib.hid hT;obtain⟨i0,hi0,hz0,hz1,hz2⟩:=info_parts5 part_info;obtain⟨j0,hj0,hy0,hy1,hy2⟩:=info_parts5 edge_cell_info;obtain⟨k0,hk0,hx0,hx1,hx2⟩:=info_parts5 future_info;have hlp:np<=400:=by have:=hF.np;rwa [hT.hp]at this
  have hle:ne<=400:=by have:=hF.ne;rwa [hT.he]at this
  have hlf:nf<=400:=by have:=hF.nf;rwa [hT.hf]at this
  have HBL:=Lib.hid hF.bars;have HNR:=Lib.hid (show nr<=400 by have:=hF.nr;rwa [hT.hr]at this)
  simp only[Sh.arg];go_enter Tryz.func30,Tryz.ntmps30;go_wp2_with fail;obtain⟨wA,hwA⟩: ∃wA,wA=(w.alloc (.cells #[.int .i64 T.period, .int .i64 T.deadline, .slice P np pc, .slice E ne ec, .slice F nf fc, .slice R nr rc] 57)).alloc (.cells #[.int .i64 0, .int .i64 0, .slice none 0 0, .slice none 0 0, .slice none 0 0, .slice none 0 0] 57):=⟨_,rfl⟩;have hsA:wA.heap.size=w.heap.size+2:=by rw[hwA];simp
  have hbA:Below w.heap.size w wA:=by rw[hwA];exact(below_alloc _).alloc (by simp) _
  have hcA: ∀i v,(#[Value.int .i64 T.period, .int .i64 T.deadline, .slice P np pc, .slice E ne ec, .slice F nf fc, .slice R nr rc]:Array Value)[i]? =some v->wA.cell? ⟨w.heap.size,i,none⟩=some v:=fun i v hv=>by
    rw[hwA];refine((below_alloc (w:=w.alloc (.cells #[.int .i64 T.period, .int .i64 T.deadline, .slice P np pc, .slice E ne ec, .slice F nf fc, .slice R nr rc] 57)) (.cells #[.int .i64 0, .int .i64 0, .slice none 0 0, .slice none 0 0, .slice none 0 0, .slice none 0 0] 57)).cell (by show w.heap.size<_;simp)).trans ?_
    rw[World.cell?_alloc_at _ _ _ _ rfl]
    exact hv
  rw[<-hwA];refine wp_region_gather' 18 100 [5,6,7,8,9,10,11,12,13,14,15,16,17,18,19,20,21,3] (by kernel_rfl) (by kernel_rfl) (by intro d hd;simp at hd⊢;omega) (fun x=>Below wA.heap.size wA x) (fun _=>True) (fun x y=>Below x.heap.size x y) (OwnF w.heap.size wA.heap.size T.period T.deadline ⟨P,np,pc,E,ne,ec,F,nf,fc,R,nr,rc⟩ T)
    (fun _ _ h=>h) (fun x y h hb=>h.trans (hb.mono h.size)) (fun _ _ _ _=>trivial) (fun k v x y _ h hb=>ownF_below k v x y h hb) (fun v x y h hb=>ownF_below 100 v x y h hb) (Below.refl _ _).drew trivial ?hstep ?hlast
  case hstep=>
    intro k o hk ho ρ x hI hA hd hJ;have hcx: ∀i v,(#[Value.int .i64 T.period, .int .i64 T.deadline, .slice P np pc, .slice E ne ec, .slice F nf fc, .slice R nr rc]:Array Value)[i]? =some v->x.cell? ⟨w.heap.size,i,none⟩=some v:=fun i v hv=>(hI.cell (by show w.heap.size<_;omega)).trans (hcA i v hv)
    have h1:ρ (.tmp 1)= .pointer (some ⟨w.heap.size,0,none⟩):=hA.tmp 1 (by decide)
    have hIx:IsT x w.heap.size ⟨P,np,pc,E,ne,ec,F,nf,fc,R,nr,rc⟩ T:=(HT.out.below hbA).below (hI.mono (by omega))
    have hgt:=hI.size
    match k,hk with
    | 0, _ =>
      have hoo:=Option.some.inj ho;subst hoo;exact⟨.pointer (some ⟨w.heap.size,0,none⟩),x,by simp[execOp,h1,go_sem],rfl,Below.refl _ _⟩
    | 1, _ =>
      have hoo:=Option.some.inj ho;subst hoo;have h2:=hd ⟨0, .data⟩ (by simp) (by rfl)
      have h3:=hcx 0 _ rfl;have h2':ρ (.tmp 5)= .pointer (some ⟨w.heap.size,0,none⟩):=h2;exact⟨.int .i64 T.period,x,by simp[execOp,h2',h3,go_sem],rfl,Below.refl _ _⟩
    | 2, _ =>
      have hoo:=Option.some.inj ho;subst hoo;exact⟨.pointer (some ⟨w.heap.size,1,none⟩),x,by simp[execOp,h1,go_sem],rfl,Below.refl _ _⟩
    | 3, _ =>
      have hoo:=Option.some.inj ho;subst hoo;have h2:=hd ⟨2, .data⟩ (by simp) (by rfl)
      have h3:=hcx 1 _ rfl;have h2':ρ (.tmp 7)= .pointer (some ⟨w.heap.size,1,none⟩):=h2;exact⟨.int .i64 T.deadline,x,by simp[execOp,h2',h3,go_sem],rfl,Below.refl _ _⟩
    | 4, _ =>
      have hoo:=Option.some.inj ho;subst hoo;exact⟨.slice (some ⟨x.heap.size,0,none⟩) 0 0,x.alloc (.cells #[] 62),by simp[execOp,go_sem],newRow_here _ x _ hgt,below_alloc _⟩
    | 5, _ =>
      have hoo:=Option.some.inj ho;subst hoo;exact⟨.pointer (some ⟨w.heap.size,2,none⟩),x,by simp[execOp,h1,go_sem],rfl,Below.refl _ _⟩
    | 6, _ =>
      have hoo:=Option.some.inj ho;subst hoo;have h2:=hd ⟨5, .data⟩ (by simp) (by rfl)
      have h3:=hcx 2 _ rfl;have h2':ρ (.tmp 10)= .pointer (some ⟨w.heap.size,2,none⟩):=h2;exact⟨.slice P np pc,x,by simp[execOp,h2',h3,go_sem],rfl,Below.refl _ _⟩
    | 7, _ =>
      have hoo:=Option.some.inj ho;subst hoo;obtain⟨g,h2,hg,hgl⟩:=hd ⟨4, .data⟩ (by simp) (by rfl)
      have h2':ρ (.tmp 9)=_:=h2;have h3:ρ (.tmp 11)= .slice P np pc:=hd ⟨6, .data⟩ (by simp) (by rfl)
      obtain⟨v',w2,hr,how,hb⟩:=fresh_append (P:=Tryz.prog) x 52 52 62 i0 (.agg #[.int .i64 0, .int .i64 0, .int .i64 0]) 3 24 Tryz.underlying52 hi0 hz0 hz1 hz2 rfl (by omega) wA.heap.size g hg hgl hgt P np pc (flatT T.parts) (by rw[flatT_length,hIx.hp]) hIx.nP (fun ad e=>by have q:=hIx.parts;simp only at q;rw[e]at q;exact q.news) (flatT_one _) (by unfold maxLen;omega) (by omega)
      exact⟨v',w2,by simp[execOp,resolve,invoke,builtin,h2',h3,hr,Result.andThen],(by show OwnT _ _ _ _ _;unfold OwnT;rw[hIx.hp];exact how),hb⟩
    | 8, _ =>
      have hoo:=Option.some.inj ho;subst hoo;exact⟨.slice (some ⟨x.heap.size,0,none⟩) 0 0,x.alloc (.cells #[] 131),by simp[execOp,go_sem],newRow_here _ x _ hgt,below_alloc _⟩
    | 9, _ =>
      have hoo:=Option.some.inj ho;subst hoo;exact⟨.pointer (some ⟨w.heap.size,3,none⟩),x,by simp[execOp,h1,go_sem],rfl,Below.refl _ _⟩
    | 10, _ =>
      have hoo:=Option.some.inj ho;subst hoo;have h2:=hd ⟨9, .data⟩ (by simp) (by rfl)
      have h3:=hcx 3 _ rfl;have h2':ρ (.tmp 14)= .pointer (some ⟨w.heap.size,3,none⟩):=h2;exact⟨.slice E ne ec,x,by simp[execOp,h2',h3,go_sem],rfl,Below.refl _ _⟩
    | 11, _ =>
      have hoo:=Option.some.inj ho;subst hoo;obtain⟨g,h2,hg,hgl⟩:=hd ⟨8, .data⟩ (by simp) (by rfl)
      have h2':ρ (.tmp 13)=_:=h2;have h3:ρ (.tmp 15)= .slice E ne ec:=hd ⟨10, .data⟩ (by simp) (by rfl)
      obtain⟨v',w2,hr,how,hb⟩:=fresh_append (P:=Tryz.prog) x 53 53 131 j0 (.agg #[.int .i64 0, .int .i64 0]) 2 16 Tryz.underlying53 hj0 hy0 hy1 hy2 rfl (by omega) wA.heap.size g hg hgl hgt E ne ec (flatE T.edges) (by rw[flatE_length,hIx.he]) hIx.nE (fun ad e=>by have q:=hIx.edges;simp only at q;rw[e]at q;exact q.news) (flatE_one _) (by unfold maxLen;omega) (by omega)
      exact⟨v',w2,by simp[execOp,resolve,invoke,builtin,h2',h3,hr,Result.andThen],(by show OwnE _ _ _ _;unfold OwnE;rw[hIx.he];exact how),hb⟩
    | 12, _ =>
      have hoo:=Option.some.inj ho;subst hoo;exact⟨.slice (some ⟨x.heap.size,0,none⟩) 0 0,x.alloc (.cells #[] 156),by simp[execOp,go_sem],newRow_here _ x _ hgt,below_alloc _⟩
    | 13, _ =>
      have hoo:=Option.some.inj ho;subst hoo;exact⟨.pointer (some ⟨w.heap.size,4,none⟩),x,by simp[execOp,h1,go_sem],rfl,Below.refl _ _⟩
    | 14, _ =>
      have hoo:=Option.some.inj ho;subst hoo;have h2:=hd ⟨13, .data⟩ (by simp) (by rfl)
      have h3:=hcx 4 _ rfl;have h2':ρ (.tmp 18)= .pointer (some ⟨w.heap.size,4,none⟩):=h2;exact⟨.slice F nf fc,x,by simp[execOp,h2',h3,go_sem],rfl,Below.refl _ _⟩
    | 15, _ =>
      have hoo:=Option.some.inj ho;subst hoo;obtain⟨g,h2,hg,hgl⟩:=hd ⟨12, .data⟩ (by simp) (by rfl)
      have h2':ρ (.tmp 17)=_:=h2;have h3:ρ (.tmp 19)= .slice F nf fc:=hd ⟨14, .data⟩ (by simp) (by rfl)
      obtain⟨v',w2,hr,how,hb⟩:=fresh_append (P:=Tryz.prog) x 54 54 156 k0 (.agg #[.int .i64 0, .int .i64 0, .int .i64 0]) 3 24 Tryz.underlying54 hk0 hx0 hx1 hx2 rfl (by omega) wA.heap.size g hg hgl hgt F nf fc (flatT T.futures) (by rw[flatT_length,hIx.hf]) hIx.nF (fun ad e=>by have q:=hIx.futures;simp only at q;rw[e]at q;exact q.news) (flatT_one _) (by unfold maxLen;omega) (by omega)
      exact⟨v',w2,by simp[execOp,resolve,invoke,builtin,h2',h3,hr,Result.andThen],(by show OwnT _ _ _ _ _;unfold OwnT;rw[hIx.hf];exact how),hb⟩
    | 16, _ =>
      have hoo:=Option.some.inj ho;subst hoo;have g1:ρ (.tmp 6)= .int .i64 T.period:=hd ⟨1, .data⟩ (by simp) (by rfl)
      have g3:ρ (.tmp 8)= .int .i64 T.deadline:=hd ⟨3, .data⟩ (by simp) (by rfl)
      have g7:OwnT 62 x wA.heap.size (ρ (.tmp 12)) T.parts:=hd ⟨7, .data⟩ (by simp) (by rfl)
      have g11:OwnE x wA.heap.size (ρ (.tmp 16)) T.edges:=hd ⟨11, .data⟩ (by simp) (by rfl)
      have g15:OwnT 156 x wA.heap.size (ρ (.tmp 20)) T.futures:=hd ⟨15, .data⟩ (by simp) (by rfl)
      obtain⟨A1,c1,e1,_,_⟩:=g7.slice;obtain⟨A2,c2,e2,_,_⟩:=g11.slice';obtain⟨A3,c3,e3,_,_⟩:=g15.slice;exact⟨.agg #[.int .i64 T.period, .int .i64 T.deadline, .slice A1 T.parts.length c1, .slice A2 T.edges.length c2, .slice A3 T.futures.length c3, .slice none 0 0],x,by simp[execOp,g1,g3,e1,e2,e3,go_sem],⟨_,_,_,rfl,e1▸g7,e2▸g11,e3▸g15⟩,Below.refl _ _⟩
    | 17, _ =>
      have hoo:=Option.some.inj ho;subst hoo;exact⟨.pointer (some ⟨x.heap.size,0,none⟩),x.alloc (.cells #[.int .i64 0, .int .i64 0, .slice none 0 0, .slice none 0 0, .slice none 0 0, .slice none 0 0] 57),by simp[execOp,go_sem],⟨_,rfl,heap_alloc_new x _,hgt⟩,below_alloc _⟩
    |k+18,hk=>omega
  case hlast=>
    intro o ho vals x hI hF;have hoo:=Option.some.inj ho;subst hoo;have f16:OwnAgg wA.heap.size T.period T.deadline T (vals 21) x:=hF 16 (by decide)
    have f17:NewDesc x wA.heap.size (vals 3):=hF 17 (by decide)
    refine own_last (base:=wA.heap.size) (p:=T.period) (q:=T.deadline) (T:=T) (.tmp 3) (.tmp 21) rfl rfl f16 f17 ?_
    intro g u1 u2 u3 x' e3 e21 HV hb;have e3':vals 3= .pointer (some ⟨g,0,none⟩):=e3;have HO0:Hid (OutR wA.heap.size T.period T.deadline T g u1 u2 u3 (.slice none 0 0) x'):=Lib.hid ⟨HV.row,HV.parts,HV.edges,HV.futures,HV.le,fun b hb'=>by simp[Value.ownBlock]at hb'⟩
    have HBA:=Lib.hid (hI.trans hb);have HA0:=Lib.hid hbA;have HSA:=Lib.hid hsA;have HCA:=Lib.hid hcA;have HRES:=Lib.hid (show wA.heap[w.heap.size+1]? =some (.cells #[.int .i64 0, .int .i64 0, .slice none 0 0, .slice none 0 0, .slice none 0 0, .slice none 0 0] 57 (0,0)) by
      rw[hwA];have h:=heap_alloc_new (w.alloc (.cells #[.int .i64 T.period, .int .i64 T.deadline, .slice P np pc, .slice E ne ec, .slice F nf fc, .slice R nr rc] 57)) (.cells #[.int .i64 0, .int .i64 0, .slice none 0 0, .slice none 0 0, .slice none 0 0, .slice none 0 0] 57)
      simpa using h)
    clear e3 e21 HV hb hI f16 f17 hT hi0 hz0 hz1 hz2 hj0 hy0 hy1 hy2 hk0 hx0 hx1 hx2 hcA hbA hwA;simp only[fillA,fillL,List.contains_cons,List.contains_nil,Nat.reduceBEq,Bool.or_false,Bool.false_or,Bool.or_true,Bool.true_or,cond_true,cond_false,Nat.zero_add,Nat.reduceAdd];rw[e3'];go_wp2;go_loopw [4] (fun v wr=> ∃(j:Nat) (u4:Value),j<=nr/\v= .int .i64 j/\Hid (OutR wA.heap.size T.period T.deadline T g u1 u2 u3 u4 wr)/\Hid (OwnB wr wA.heap.size u4 (T.bars.take j))/\Hid (Below wA.heap.size wA wr)) (fun v _=>nr - (intOf v).toNat)
    case atStart=>exact⟨0,_,Nat.zero_le _,rfl,HO0,Lib.hid (OwnB.nil _ _),HBA⟩
    case round=>
      obtain⟨j,u4,hj,rfl,HO,HB4,HB⟩:=hrel;clear HO0 HBA;have hb5w:wr.cell? ⟨w.heap.size,5,none⟩=some (.slice R nr rc):=(HB.out.cell (by show w.heap.size<_;rw[HSA.out];omega)).trans (HCA.out 5 _ rfl)
      have HIW:Hid (IsT wr w.heap.size ⟨P,np,pc,E,ne,ec,F,nf,fc,R,nr,rc⟩ T):=Lib.hid ((HT.out.below HA0.out).below (HB.out.mono (by rw[HSA.out];omega)))
      by_cases hlt:j<nr
      · obtain⟨bk,off,xs,ys,A1,n1,c1,A2,n2,c2,hR,hbg,hbj,hl1,hl2,dq1,dq2,hz1,hz2,ha1,ha2⟩:=HIW.out.bars.at_ (k:=j) (by rw[HIW.out.hr];exact hlt)
        simp only at hR;subst hR;have HL1:=Lib.hid hl1;have HL2:=Lib.hid hl2;have HA1:=Lib.hid ha1;have HA2:=Lib.hid ha2;have HZ1:=Lib.hid hz1;have HZ2:=Lib.hid hz2;have HBJ:=Lib.hid hbj;have HDQ1:=Lib.hid dq1;have HDQ2:=Lib.hid dq2;have hbl:=HBL.out _ (List.mem_of_getElem? hbj)
        simp only at hbl;rw[hl1,hl2]at hbl;have hnr:=HNR.out;clear hl1 hl2 ha1 ha2 hz1 hz2 hbj dq1 dq2;go_wp2_with fail;refine wp_region_gather' 22 20 [29,30,31,32,33,34,35,36,37,38,39,40,41,42,43,44,45,46,47,48,49,50] (by kernel_rfl) (by kernel_rfl) (by intro d hd;simp at hd⊢;omega) (fun x=>Below wA.heap.size wA x/\OutR wA.heap.size T.period T.deadline T g u1 u2 u3 u4 x) (fun x=>OwnB x wA.heap.size u4 (T.bars.take j)) (RB wA.heap.size u4.ownBlock) (OwnG g w.heap.size wA.heap.size u4 (some ⟨bk,off,none⟩) nr rc bk off j A1 n1 c1 A2 n2 c2 xs ys (T.bars.take j))
          (fun _ _ h=> .inl h) (fun x y h hr=>⟨h.1.trans (hr.below h.1.size),h.2.rb hr⟩) (fun _ _ h hb=>h.below hb) (fun k v x y hk h hr=>ownG_rb k v x y hk h hr) (fun v x y h hb=>OwnB.below h hb) ⟨HB.out.drew,HO.out.rb (.inl (Below.refl _ _).drew)⟩ (HB4.out.below (Below.refl _ _).drew) ?hstep5 ?hlast5
        case hstep5=>
          intro k o hk ho ρ x hI hA hd hJ;have h1:ρ (.tmp 1)= .pointer (some ⟨w.heap.size,0,none⟩):=hA.tmp 1 (by decide)
          have h3:ρ (.tmp 3)= .pointer (some ⟨g,0,none⟩):=hA.tmp 3 (by decide)
          have h4:ρ (.tmp 4)= .int .i64 j:=hA.tmp 4 (by decide)
          have hgt:=hI.1.size;have hxr: ∀(q:Addr),q.block<w.heap.size+1->x.cell? q=wA.cell? q:=fun q hq=>hI.1.cell (by rw[HSA.out];omega)
          have hwr': ∀(q:Addr),q.block<w.heap.size+1->wr.cell? q=wA.cell? q:=fun q hq=>HB.out.cell (by rw[HSA.out];omega)
          have hb5:x.cell? ⟨w.heap.size,5,none⟩=some (.slice (some ⟨bk,off,none⟩) nr rc):=(hxr _ (by show w.heap.size<_;omega)).trans (HCA.out 5 _ rfl)
          have hg5:x.cell? ⟨g,5,none⟩=some u4:=by rw[cell_of_row _ _ _ _ _ _ hI.2.row];rfl
          have hq1:x.cell? ⟨bk,off+j * 2,none⟩=some (.slice A1 n1 c1):=(hxr _ (by show bk<_;omega)).trans ((hwr' _ (by show bk<_;omega)).symm.trans HDQ1.out)
          have hq2:x.cell? ⟨bk,off+j * 2+1,none⟩=some (.slice A2 n2 c2):=(hxr _ (by show bk<_;omega)).trans ((hwr' _ (by show bk<_;omega)).symm.trans HDQ2.out)
          have hZ1:Ints x w.heap.size A1 xs:=HZ1.out.keep fun q hq=>(hxr q (by omega)).trans (hwr' q (by omega)).symm
          have hZ2:Ints x w.heap.size A2 ys:=HZ2.out.keep fun q hq=>(hxr q (by omega)).trans (hwr' q (by omega)).symm
          obtain⟨k0,hk0,hx0,hx1,hx2⟩:=info_parts5 int_cell_info;have hjl:(j:Int)<(nr:Int):=by omega
          match k,hk with
          | 0, _ =>
            have hoo:=Option.some.inj ho;subst hoo;exact⟨.pointer (some ⟨g,5,none⟩),x,by simp[execOp,h3,go_sem],rfl,Below.refl _ _⟩
          | 1, _ =>
            have hoo:=Option.some.inj ho;subst hoo;have g0:ρ (.tmp 29)= .pointer (some ⟨g,5,none⟩):=hd ⟨0, .data⟩ (by simp) (by rfl)
            exact⟨u4,x,by simp[execOp,g0,hg5,go_sem],rfl,Below.refl _ _⟩
          | 2, _ =>
            have hoo:=Option.some.inj ho;subst hoo;exact⟨.slice (some ⟨x.heap.size,0,none⟩) 0 0,x.alloc (.cells #[] 3),by simp[execOp,go_sem],newRow_here _ x _ hgt,below_alloc _⟩
          | 3, _ =>
            have hoo:=Option.some.inj ho;subst hoo;exact⟨.pointer (some ⟨w.heap.size,5,none⟩),x,by simp[execOp,h1,go_sem],rfl,Below.refl _ _⟩
          | 4, _ =>
            have hoo:=Option.some.inj ho;subst hoo;have g0:ρ (.tmp 32)= .pointer (some ⟨w.heap.size,5,none⟩):=hd ⟨3, .data⟩ (by simp) (by rfl)
            exact⟨.slice (some ⟨bk,off,none⟩) nr rc,x,by simp[execOp,g0,hb5,go_sem],rfl,Below.refl _ _⟩
          | 5, _ =>
            have hoo:=Option.some.inj ho;subst hoo;exact⟨.int .i64 j,x,by simp[execOp,h4,go_sem],rfl,Below.refl _ _⟩
          | 6, _ =>
            have hoo:=Option.some.inj ho;subst hoo;have g0:ρ (.tmp 33)= .slice (some ⟨bk,off,none⟩) nr rc:=hd ⟨4, .data⟩ (by simp) (by rfl)
            have g1:ρ (.tmp 34)= .int .i64 j:=hd ⟨5, .data⟩ (by simp) (by rfl)
            exact⟨.pointer (some ⟨bk,off+j * 2,none⟩),x,by simp[execOp,g0,g1,go_sem,hjl],rfl,Below.refl _ _⟩
          | 7, _ =>
            have hoo:=Option.some.inj ho;subst hoo;have g0:ρ (.tmp 35)= .pointer (some ⟨bk,off+j * 2,none⟩):=hd ⟨6, .data⟩ (by simp) (by rfl)
            exact⟨.pointer (some ⟨bk,off+j * 2,none⟩),x,by simp[execOp,g0,go_sem],rfl,Below.refl _ _⟩
          | 8, _ =>
            have hoo:=Option.some.inj ho;subst hoo;have g0:ρ (.tmp 36)= .pointer (some ⟨bk,off+j * 2,none⟩):=hd ⟨7, .data⟩ (by simp) (by rfl)
            exact⟨.slice A1 n1 c1,x,by simp[execOp,g0,hq1,go_sem],rfl,Below.refl _ _⟩
          | 9, _ =>
            have hoo:=Option.some.inj ho;subst hoo;obtain⟨h,g0,hh,hhl⟩:=hd ⟨2, .data⟩ (by simp) (by rfl)
            have g0':ρ (.tmp 31)=_:=g0;have g1:ρ (.tmp 37)= .slice A1 n1 c1:=hd ⟨8, .data⟩ (by simp) (by rfl)
            obtain⟨v',w2,hr,how,hb⟩:=fresh_append (P:=Tryz.prog) x 40 40 3 k0 (.int .i64 0) 1 8 Tryz.underlying40 hk0 hx0 hx1 hx2 rfl (by omega) wA.heap.size h hh hhl hgt A1 n1 c1 (xs.map (Value.int .i64)) (by rw[List.length_map,HL1.out];omega) HA1.out (fun ad e=>by have q:=hZ1;rw[e]at q;exact q.cells) (oneCell_ints _) (by unfold maxLen;omega) (by omega)
            exact⟨v',w2,by simp[execOp,resolve,invoke,builtin,g0',g1,hr,Result.andThen],(by show OwnI _ _ _ _;unfold OwnI;rw[HL1.out];exact how),hb⟩
          | 10, _ =>
            have hoo:=Option.some.inj ho;subst hoo;exact⟨.slice (some ⟨x.heap.size,0,none⟩) 0 0,x.alloc (.cells #[] 3),by simp[execOp,go_sem],newRow_here _ x _ hgt,below_alloc _⟩
          | 11, _ =>
            have hoo:=Option.some.inj ho;subst hoo;exact⟨.pointer (some ⟨w.heap.size,5,none⟩),x,by simp[execOp,h1,go_sem],rfl,Below.refl _ _⟩
          | 12, _ =>
            have hoo:=Option.some.inj ho;subst hoo;have g0:ρ (.tmp 40)= .pointer (some ⟨w.heap.size,5,none⟩):=hd ⟨11, .data⟩ (by simp) (by rfl)
            exact⟨.slice (some ⟨bk,off,none⟩) nr rc,x,by simp[execOp,g0,hb5,go_sem],rfl,Below.refl _ _⟩
          | 13, _ =>
            have hoo:=Option.some.inj ho;subst hoo;exact⟨.int .i64 j,x,by simp[execOp,h4,go_sem],rfl,Below.refl _ _⟩
          | 14, _ =>
            have hoo:=Option.some.inj ho;subst hoo;have g0:ρ (.tmp 41)= .slice (some ⟨bk,off,none⟩) nr rc:=hd ⟨12, .data⟩ (by simp) (by rfl)
            have g1:ρ (.tmp 42)= .int .i64 j:=hd ⟨13, .data⟩ (by simp) (by rfl)
            exact⟨.pointer (some ⟨bk,off+j * 2,none⟩),x,by simp[execOp,g0,g1,go_sem,hjl],rfl,Below.refl _ _⟩
          | 15, _ =>
            have hoo:=Option.some.inj ho;subst hoo;have g0:ρ (.tmp 43)= .pointer (some ⟨bk,off+j * 2,none⟩):=hd ⟨14, .data⟩ (by simp) (by rfl)
            exact⟨.pointer (some ⟨bk,off+j * 2+1,none⟩),x,by simp[execOp,g0,go_sem],rfl,Below.refl _ _⟩
          | 16, _ =>
            have hoo:=Option.some.inj ho;subst hoo;have g0:ρ (.tmp 44)= .pointer (some ⟨bk,off+j * 2+1,none⟩):=hd ⟨15, .data⟩ (by simp) (by rfl)
            exact⟨.slice A2 n2 c2,x,by simp[execOp,g0,hq2,go_sem],rfl,Below.refl _ _⟩
          | 17, _ =>
            have hoo:=Option.some.inj ho;subst hoo;obtain⟨h,g0,hh,hhl⟩:=hd ⟨10, .data⟩ (by simp) (by rfl)
            have g0':ρ (.tmp 39)=_:=g0;have g1:ρ (.tmp 45)= .slice A2 n2 c2:=hd ⟨16, .data⟩ (by simp) (by rfl)
            obtain⟨v',w2,hr,how,hb⟩:=fresh_append (P:=Tryz.prog) x 40 40 3 k0 (.int .i64 0) 1 8 Tryz.underlying40 hk0 hx0 hx1 hx2 rfl (by omega) wA.heap.size h hh hhl hgt A2 n2 c2 (ys.map (Value.int .i64)) (by rw[List.length_map,HL2.out];omega) HA2.out (fun ad e=>by have q:=hZ2;rw[e]at q;exact q.cells) (oneCell_ints _) (by unfold maxLen;omega) (by omega)
            exact⟨v',w2,by simp[execOp,resolve,invoke,builtin,g0',g1,hr,Result.andThen],(by show OwnI _ _ _ _;unfold OwnI;rw[HL2.out];exact how),hb⟩
          | 18, _ =>
            have hoo:=Option.some.inj ho;subst hoo;have g9:OwnI x wA.heap.size (ρ (.tmp 38)) xs:=hd ⟨9, .data⟩ (by simp) (by rfl)
            have g17:OwnI x wA.heap.size (ρ (.tmp 46)) ys:=hd ⟨17, .data⟩ (by simp) (by rfl)
            obtain⟨B1,d1,e1,_⟩:=g9.slice;obtain⟨B2,d2,e2,_⟩:=g17.slice;exact⟨.agg #[.slice B1 xs.length d1, .slice B2 ys.length d2],x,by simp[execOp,e1,e2,go_sem],⟨_,_,rfl,e1▸g9,e2▸g17⟩,Below.refl _ _⟩
          | 19, _ =>
            have hoo:=Option.some.inj ho;subst hoo;have g18:OwnPair wA.heap.size xs ys (ρ (.tmp 47)) x:=hd ⟨18, .data⟩ (by simp) (by rfl)
            obtain⟨v1,v2,e18,q1,q2⟩:=g18;obtain⟨B1,d1,rfl,_⟩:=q1.slice;obtain⟨B2,d2,rfl,_⟩:=q2.slice;exact⟨.slice (some ⟨x.heap.size,0,none⟩) 1 1,x.alloc (.cells #[.slice B1 xs.length d1, .slice B2 ys.length d2] 97),by simp[execOp,e18,go_sem],⟨_,_,_,rfl,heap_alloc_new x _,(fun e=>by have:=hI.2.lt _ e;omega),q1.below (below_alloc _),q2.below (below_alloc _)⟩,below_alloc _⟩
          | 20, _ =>
            have hoo:=Option.some.inj ho;subst hoo;have g1:ρ (.tmp 30)=u4:=hd ⟨1, .data⟩ (by simp) (by rfl)
            have g19:OwnElem wA.heap.size u4.ownBlock xs ys (ρ (.tmp 48)) x:=hd ⟨19, .data⟩ (by simp) (by rfl)
            obtain⟨v',w2,hr,how,hrb⟩:=ownB_append (hJ rfl) g19 (by rw[List.length_take];omega) hgt
            exact⟨v',w2,by simp[execOp,resolve,invoke,builtin,g1,hr,Result.andThen],how,hrb⟩
          | 21, _ =>
            have hoo:=Option.some.inj ho;subst hoo;exact⟨.pointer (some ⟨g,5,none⟩),x,by simp[execOp,h3,go_sem],rfl,Below.refl _ _⟩
          |k+22,hk=>omega
        case hlast5=>
          intro o ho vals5 x hI hF5;have hoo:=Option.some.inj ho;subst hoo;have f20:OwnB x wA.heap.size (vals5 49) (T.bars.take j++ [(xs,ys)]):=hF5 20 (by decide)
          have f21:vals5 50= .pointer (some ⟨g,5,none⟩):=hF5 21 (by decide)
          refine own_last2 (base:=wA.heap.size) (p:=T.period) (q:=T.deadline) (T:=T) (.tmp 50) (.tmp 49) rfl rfl hI.2 f20 f21 ?_
          intro u x2 e49 HO2 HB2 hb;have HO2':=Lib.hid HO2;have HB2':=Lib.hid HB2;have HBX:=Lib.hid (hI.1.trans hb);have HTK:=Lib.hid (take_snoc' HBJ.out);clear hF5 f20 f21 HO2 HB2 hb hI e49;simp only[fillA,fillL,List.contains_cons,List.contains_nil,Nat.reduceBEq,Bool.or_false,Bool.false_or,Bool.or_true,Bool.true_or,cond_true,cond_false,Nat.zero_add,Nat.reduceAdd];go_wp2;go_roundw
          case rel=>exact⟨j+1,u,by omega,by go_num,HO2',Lib.hid (by rw[HTK.out];exact HB2'.out),HBX⟩
          case measure=>simp[intOf];omega
      · have e:nr=j:=by omega
        have HBE:Hid (OwnB wr wA.heap.size u4 T.bars):=Lib.hid (by
          have h:=HB4.out
          rwa [List.take_of_length_le (by rw[HIW.out.hr,<-e];exact Nat.le_refl _)]at h)
        clear e;obtain⟨B1,d1,e1,_,_⟩:=HO.out.parts.slice;obtain⟨B2,d2,e2,_,_⟩:=HO.out.edges.slice';obtain⟨B3,d3,e3,_,_⟩:=HO.out.futures.slice;obtain⟨B4,k4,d4,e4⟩: ∃A n c,u4= .slice A n c:=by
          obtain⟨cs,_,h2,_⟩:=HBE.out;rcases h2.2 with⟨h3,_⟩|⟨g',cap,cur,h3,_⟩
          · exact⟨_,_,_,h3⟩
          · exact⟨_,_,_,h3⟩
        subst e1 e2 e3 e4;have hrow:=HO.out.row;have r0:=cell_of_row wr g 0 _ _ _ hrow;have r1:=cell_of_row wr g 1 _ _ _ hrow;have r2:=cell_of_row wr g 2 _ _ _ hrow;have r3:=cell_of_row wr g 3 _ _ _ hrow;have r4:=cell_of_row wr g 4 _ _ _ hrow;have r5:=cell_of_row wr g 5 _ _ _ hrow;simp at r0 r1 r2 r3 r4 r5;have hres:wr.heap[w.heap.size+1]? =some (.cells #[.int .i64 0, .int .i64 0, .slice none 0 0, .slice none 0 0, .slice none 0 0, .slice none 0 0] 57 (0,0)):=(HB.out.block _ (by rw[HSA.out];omega)).trans HRES.out
        have y0:=cell_of_row wr (w.heap.size+1) 0 _ _ _ hres;have y1:=cell_of_row wr (w.heap.size+1) 1 _ _ _ hres;have y2:=cell_of_row wr (w.heap.size+1) 2 _ _ _ hres;have y3:=cell_of_row wr (w.heap.size+1) 3 _ _ _ hres;have y4:=cell_of_row wr (w.heap.size+1) 4 _ _ _ hres;have y5:=cell_of_row wr (w.heap.size+1) 5 _ _ _ hres;simp at y0 y1 y2 y3 y4 y5;have z0:=frozen_of_row wr (w.heap.size+1) 0 _ _ hres;have z1:=frozen_of_row wr (w.heap.size+1) 1 _ _ hres;have z2:=frozen_of_row wr (w.heap.size+1) 2 _ _ hres;have z3:=frozen_of_row wr (w.heap.size+1) 3 _ _ hres;have z4:=frozen_of_row wr (w.heap.size+1) 4 _ _ hres;have z5:=frozen_of_row wr (w.heap.size+1) 5 _ _ hres;have hrl:w.heap.size+1<wr.heap.size:=(Array.getElem?_eq_some_iff.1 hres).1
        have hgl:=(Array.getElem?_eq_some_iff.1 hrow).1
        have hgw:w.heap.size+2<=g:=by have:=HO.out.le;rw[HSA.out]at this;exact this
        have HGW:=Lib.hid hgw;have HRW:=Lib.hid hres;clear hres hrow hgw;go_wp2;obtain⟨x2,hx2⟩: ∃x2,x2=((((((wr.setCell ⟨w.heap.size+1,0,none⟩ (.int .i64 T.period)).setCell ⟨w.heap.size+1,1,none⟩ (.int .i64 T.deadline)).setCell ⟨w.heap.size+1,2,none⟩ (.slice B1 T.parts.length d1)).setCell ⟨w.heap.size+1,3,none⟩ (.slice B2 T.edges.length d2)).setCell ⟨w.heap.size+1,4,none⟩ (.slice B3 T.futures.length d3)).setCell ⟨w.heap.size+1,5,none⟩ (.slice B4 k4 d4)):=⟨_,rfl⟩;rw[<-hx2];have h1:=heap_setCell_same wr (w.heap.size+1) 0 _ _ (.int .i64 T.period) HRW.out;have h2:=heap_setCell_same _ (w.heap.size+1) 1 _ _ (.int .i64 T.deadline) h1;have h3:=heap_setCell_same _ (w.heap.size+1) 2 _ _ (.slice B1 T.parts.length d1) h2;have h4:=heap_setCell_same _ (w.heap.size+1) 3 _ _ (.slice B2 T.edges.length d2) h3;have h5:=heap_setCell_same _ (w.heap.size+1) 4 _ _ (.slice B3 T.futures.length d3) h4;have h6:=heap_setCell_same _ (w.heap.size+1) 5 _ _ (.slice B4 k4 d4) h5;rw[<-hx2]at h6;have ho: ∀k,k≠w.heap.size+1->x2.heap[k]? =wr.heap[k]? :=fun k hk=>by
          rw[hx2,heap_setCell_other _ _ _ _ hk,heap_setCell_other _ _ _ _ hk,heap_setCell_other _ _ _ _ hk,heap_setCell_other _ _ _ _ hk,heap_setCell_other _ _ _ _ hk,heap_setCell_other _ _ _ _ hk]
        have hle:w.heap.size<=w.heap.size+1:=Nat.le_succ _;have hbx:Below w.heap.size wr x2:=by
          rw[hx2];exact(((((((Below.refl _ wr).setCell hle _).setCell hle _).setCell hle _).setCell hle _).setCell hle _).setCell hle _)
        have k0:=cell_of_row x2 (w.heap.size+1) 0 _ _ _ h6;have k1:=cell_of_row x2 (w.heap.size+1) 1 _ _ _ h6;have k2:=cell_of_row x2 (w.heap.size+1) 2 _ _ _ h6;have k3:=cell_of_row x2 (w.heap.size+1) 3 _ _ _ h6;have k5:=cell_of_row x2 (w.heap.size+1) 4 _ _ _ h6;have k6:=cell_of_row x2 (w.heap.size+1) 5 _ _ _ h6;simp at k0 k1 k2 k3 k5 k6;have hsb:w.heap.size<=wA.heap.size:=by rw[HSA.out];omega
        clear hx2;refine bodyPost_ret (v:= .agg #[.int .i64 T.period, .int .i64 T.deadline, .slice B1 T.parts.length d1, .slice B2 T.edges.length d2, .slice B3 T.futures.length d3, .slice B4 k4 d4]) ?_ rfl ⟨_,_,_,_,rfl,own_less (other_own HO.out.parts HRW.out (by decide) ho) hsb,own_less (other_own HO.out.edges HRW.out (by decide) ho) hsb,own_less (other_own HO.out.futures HRW.out (by decide) ho) hsb,(HBE.out.other HRW.out (by decide) (by decide) ho).less hsb,HA0.out.trans ((HB.out.mono hsb).trans hbx)⟩
        simp[results,Tryz.results30,go_sem,k0,k1,k2,k3,k5,k6]
structure IsD(w:World)(s:Sh)(T:Task):Prop where
 t:IsT w w.heap.size s T
 few:FewT T
 tab:DTab w
 lE:s.ne<=s.ec
 lF:s.nf<=s.fc
theorem IsD.below{w w':World}{s:Sh}{T:Task}(h:IsD w s T)(hb:Below w.heap.size w w'):IsD w' s T:=⟨(h.t.below hb).more hb.size,h.few,h.tab.via hb,h.lE,h.lF⟩
theorem own_cap{w:World}{base:Nat}{t:TypeId}{k:Nat}{A:Option Addr}{n c:Nat}{xs:List Value}(h:w.ownsRow base t k (.slice A n c) n xs):n<=c:=by
 rcases h.2 with⟨h1,h2⟩|⟨g,cap,cur,h1,_,_,h2,_⟩
 ·injection h1 with _ _ h3
  omega
 ·injection h1 with _ _ h3
  omega
theorem Ints.cap{w:World}{b:Nat}{v:Value}{zs:List Int}(h:OwnI w b v zs): ∃A c,v= .slice A zs.length c/\Ints w w.heap.size A zs/\(A=none->zs.length=0/\c=0):=by
 obtain⟨A,c,e,hI⟩:=h.slice;refine⟨A,c,e,hI,fun hA=> ?_⟩
 rcases h.2 with⟨h1,hn⟩|⟨g,cap,cur,h1,_⟩
 ·rw [e] at h1
  injection h1 with _ h2 h3;exact⟨h2,h3⟩
 ·rw [e,hA] at h1
  injection h1 with h2;cases h2
theorem OwnB.slice{w:World}{base:Nat}{v:Value}{bs:List (List Int×List Int)}(h:OwnB w base v bs): ∃A c,v= .slice A bs.length c/\Bars w w.heap.size A bs/\(A=none->bs.length=0/\c=0):=by
  obtain⟨cs,h1,h2,h3⟩:=h;rcases h2.2 with⟨rfl,hn⟩|⟨g,cap,cur,rfl,hg,hgg,rest⟩
  · have:bs= []:=List.eq_nil_of_length_eq_zero hn;subst this;exact⟨none,0,rfl,(fun h0=>absurd h0 (by simp)),fun _=>⟨rfl,rfl⟩⟩
  · refine⟨some ⟨g,0,none⟩,cap,rfl,(fun _=>⟨g,0,rfl,(Array.getElem?_eq_some_iff.1 hgg).1,fun k b hb=> ?_⟩),fun e=>by cases e⟩
    have hk:k<bs.length:=(List.getElem?_eq_some_iff.1 hb).1
    obtain⟨c,hc⟩: ∃c,cs[k]? =some c:=⟨_,List.getElem?_eq_getElem (by omega)⟩
    obtain⟨q1,q2⟩:=h3 k c b hc hb;obtain⟨A1,c1,e1,i1,n1⟩:=Ints.cap q1;obtain⟨A2,c2,e2,i2,n2⟩:=Ints.cap q2;have hf: ∀(cs:List (Value×Value)) (k:Nat) (c:Value×Value),cs[k]? =some c->(cs.flatMap fun c=> [c.1,c.2])[k * 2]? =some c.1/\(cs.flatMap fun c=> [c.1,c.2])[k * 2+1]? =some c.2:=by
      intro cs
      induction cs with
      |nil=>intro k c h;simp at h
      | cons x cs ih =>
        intro k c h;cases k with
        | zero =>
          obtain rfl:x=c:=by simpa using h
          exact⟨rfl,rfl⟩
        | succ k =>
          have:=ih k c (by simpa using h)
          rw[show(k+1) * 2=k * 2+1+1 by omega,List.flatMap_cons]
          simpa using this
    obtain⟨f1,f2⟩:=hf cs k c hc;have d1:=h2.cells (g:=g) rfl _ _ f1;have d2:=h2.cells (g:=g) rfl _ _ f2;rw[addr_add]at d1 d2;rw[show 0+(k * 2+1)=0+k * 2+1 by omega]at d2
    rw[e1]at d1;rw[e2]at d2;exact⟨A1,c1,A2,c2,d1,d2,i1,i2,n1,n2⟩
theorem GotD.isD{p q:Int}{T:Task}{w w':World}{e:Ending}(h:GotD p q T w e w')(hF:FewT T)(hW:DTab w): ∃s:Sh,e= .returned (s.arg p q)/\IsD w' s T/\Below w.heap.size w w':=by
 obtain⟨u1,u2,u3,u4,he,h1,h2,h3,h4,b⟩:=h;obtain⟨P,pc,rfl,t1,n1⟩:=h1.slice;obtain⟨E,ec,rfl,t2,n2⟩:=h2.slice';obtain⟨F,fc,rfl,t3,n3⟩:=h3.slice;have q2:=own_cap h2;have q3:=own_cap h3;obtain⟨R,rc,rfl,t4,n4⟩:=h4.slice;exact⟨⟨P,_,pc,E,_,ec,F,_,fc,R,_,rc⟩,he,⟨⟨rfl,rfl,rfl,rfl,t1,t2,t3,t4,n1,n2,n3,n4⟩,hF,hW.via b,q2,q3⟩,b⟩
end Go.Proofs.YtlfekmbalgkmeaaGreatDoor
