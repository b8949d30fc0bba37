import Derived.Test.YtfahabphncmbfaaGreatDoorZQ28
import Derived.Test.YtfahabphncmbfaaGreatDoorZQ23
set_option linter.all false
set_option maxHeartbeats 4000000
namespace Go.Proofs.YtfahabphncmbfaaGreatDoor
open Go Go.RowKit
open Go.Lib renaming hid→Zf
open List renaming eq_nil_of_length_eq_zero→Yb,getElem?_append_left→Ym,getElem?_eq_getElem→Zh,getElem?_eq_none→Zt,getElem?_eq_some_iff→Zs,getElem?_map→ZO,getElem?_set_self→ZJ,length_set→ZU,range→Zo,set_set→Ys
open Nat renaming add_zero→Zy,lt_or_ge→Zv,mul_comm→YM
open Go.Proofs.Tryz renaming prog→Zg
open Go renaming heap_setCell_other→Yah,heap_setCell_same→Yai,undef→Yag
open Go.Proofs.Tryz
structure IsQ(w:World)(A:Option Addr)(n c:Nat)(R:List Int):Prop where
 hn:R.length=n
 ln:n<=1000
 ints:Ints w w.heap.size A R
 hA:A=none->n=0/\c=0
theorem IsQ.below{w w':World}{A:Option Addr}{n c:Nat}{R:List Int}(h:IsQ w A n c R)(hb:Below w.heap.size w w'):IsQ w' A n c R:=⟨h.hn,h.ln,(h.ints.below hb).more hb.size,h.hA⟩
structure Rws(w0:World)(L:List (TypeId×List Value))(w:World):Prop where
 bel:Below w0.heap.size w0 w
 row:∀(i:Nat) (t:TypeId) (vs:List Value),L[i]?=some (t,vs)->RowV (w0.heap.size+i) t vs w
def ZdU(w:World):List (TypeId×List Value)->World
 | []=>w
 |(t,vs)::L=>ZdU (w.alloc (.cells vs.toArray t)) L
theorem Zgs(t:TypeId)(vs:List Value):∀(L:List (TypeId×List Value)) (w:World),ZdU w (L++ [(t,vs)])=(ZdU w L).alloc (.cells vs.toArray t)
 | [],w=>rfl
 |(t',vs')::L,w=>Zgs t vs L _
theorem Zgt:∀(L:List (TypeId×List Value)) (w:World),(ZdU w L).heap.size=w.heap.size+L.length
  | [],w=>rfl
  | (t, vs) :: L, w => by
    show(ZdU (w.alloc _) L).heap.size=_;rw[Zgt L];simp;omega
theorem Rws.next{w0 w w':World}{L:List (TypeId×List Value)}(h:Rws w0 L w)(hb:Below w.heap.size w w'):Rws w0 L w':=by refine⟨h.bel.trans (hb.mono h.bel.size),fun i t vs hi=> ?_⟩;have:=h.row i t vs hi;exact this.below hb this.lt
theorem Rws.start(w:World)(L:List (TypeId×List Value)):Rws w L (ZdU w L):=by
  obtain⟨k,hk⟩:∃k,k=L.length:=⟨_,rfl⟩
  induction k generalizing L with
  | zero =>obtain rfl:L= []:=Yb hk.symm;exact⟨Below.refl _ _,fun i t vs hi=>by simp at hi⟩
  | succ k ih =>
    obtain⟨L',x,rfl⟩:∃L' x,L=L'++ [x]:=⟨L.dropLast,L.getLast (by intro h;subst h;simp at hk),(List.dropLast_concat_getLast _).symm⟩;obtain⟨t,vs⟩:=x;have h:=ih L' (by simp at hk;omega);rw[Zgs];have h2:=h.next (Zaa (.cells vs.toArray t));refine⟨h2.bel,fun i t' vs' hi=> ?_⟩
    rcases Zv i L'.length with hl|hl
    · rw[Ym hl]at hi;exact h2.row i t' vs' hi
    · rw[List.getElem?_append_right hl]at hi;have h0:i - L'.length=0:=by
        rcases Nat.eq_zero_or_pos (i - L'.length)with e|e
        · exact e
        · rw[Zt (by simp;omega)]at hi;cases hi
      rw[h0]at hi;injection hi with hi;injection hi with e1 e2;subst e1 e2;have e3:w.heap.size+i=(ZdU w L').heap.size:=by rw[Zgt];omega
      rw[e3];exact RowV.new _ _ _
theorem Rws.cell{w0 w:World}{L:List (TypeId×List Value)}(h:Rws w0 L w)(i j:Nat){t:TypeId}{vs:List Value}{v:Value}(hi:L[i]?=some (t,vs))(hj:vs[j]?=some v):w.cell? ⟨w0.heap.size+i,j,none⟩=some v:=(h.row i t vs hi).cell hj
theorem Rws.frozen{w0 w:World}{L:List (TypeId×List Value)}(h:Rws w0 L w)(i j:Nat){t:TypeId}{vs:List Value}(hi:L[i]?=some (t,vs)):w.frozen? ⟨w0.heap.size+i,j,none⟩=false:=(h.row i t vs hi).frozen j
theorem Rws.set{w0 w:World}{L:List (TypeId×List Value)}(h:Rws w0 L w)(i j:Nat){t:TypeId}{vs:List Value}(hi:L[i]?=some (t,vs))(v:Value):Rws w0 (L.set i (t,vs.set j v)) (w.setCell ⟨w0.heap.size+i,j,none⟩ v):=by
 refine⟨h.bel.setCell (by show w0.heap.size<=w0.heap.size+i;omega) v,fun k t' vs' hk=> ?_⟩;by_cases e:i=k
 ·subst e
  have hl:i<L.length:=(Zs.mp hi).1;rw[ZJ hl]at hk;injection hk with hk;injection hk with e1 e2;subst e1 e2;exact(h.row i t vs hi).set j v
 ·rw [List.getElem?_set_ne e] at hk
  have:=h.row k t' vs' hk;unfold RowV at this⊢;rw[Yah _ _ _ _ (by show w0.heap.size+k≠w0.heap.size+i;omega)];exact this
theorem Rws.setQ{w0 w:World}{L:List (TypeId×List Value)}(h:Rws w0 L w)(i:Nat){t:TypeId}{a b c:Value}(hi:L[i]?=some (t,[a,b,c]))(x y z:Value):
  Rws w0 (L.set i (t,[x,y,z])) (((w.setCell ⟨w0.heap.size+i,0,none⟩ x).setCell ⟨w0.heap.size+i,1,none⟩ y).setCell ⟨w0.heap.size+i,2,none⟩ z):=by
 have hl:i<L.length:=(Zs.mp hi).1;have h1:=h.set i 0 hi x;have h2:=h1.set i 1 (ZJ hl) y;rw[Ys]at h2;have h3:=h2.set i 2 (ZJ hl) z;rw[Ys]at h3;exact h3
theorem Rws.setT{w0 w:World}{L:List (TypeId×List Value)}(h:Rws w0 L w)(i:Nat){t:TypeId}{a b c d e f:Value}(hi:L[i]?=some (t,[a,b,c,d,e,f]))(u v x y z r:Value):
  Rws w0 (L.set i (t,[u,v,x,y,z,r])) ((((((w.setCell ⟨w0.heap.size+i,0,none⟩ u).setCell ⟨w0.heap.size+i,1,none⟩ v).setCell ⟨w0.heap.size+i,2,none⟩ x).setCell ⟨w0.heap.size+i,3,none⟩ y).setCell ⟨w0.heap.size+i,4,none⟩ z).setCell ⟨w0.heap.size+i,5,none⟩ r):=by
 have hl:i<L.length:=(Zs.mp hi).1;have h1:=h.set i 0 hi u;have h2:=h1.set i 1 (ZJ hl) v;rw[Ys]at h2;have h3:=h2.set i 2 (ZJ hl) x;rw[Ys]at h3;have h4:=h3.set i 3 (ZJ hl) y;rw[Ys]at h4;have h5:=h4.set i 4 (ZJ hl) z;rw[Ys]at h5;have h6:=h5.set i 5 (ZJ hl) r;rw[Ys]at h6;exact h6
theorem Rws.alloc{w0 w:World}{L:List (TypeId×List Value)}(h:Rws w0 L w)(o:Obj):Rws w0 L (w.alloc o):=h.next (Zaa o)
theorem Rws.drew{w0 w:World}{L:List (TypeId×List Value)}(h:Rws w0 L w)(N:Nat):Rws w0 L (w.drewN N):=h.next (below_drewN (Below.refl _ _) N)
theorem ZgM{fn:Func}{p q u:Tmp}{ty tz:TypeId}(h:fn.results= #[.cell p ty,.cell q tz,.tmp u])(tmps:Array Value)(P:Program)(w:World):
  (results fn tmps).run P w =
   ((asAddr (tmps.getD p Yag)).run P w).andThen fun a w₁=>((loadVar ty a).run P w₁).andThen fun v w₂=>((asAddr (tmps.getD q Yag)).run P w₂).andThen fun b w₃=>((loadVar tz b).run P w₃).andThen fun x w₄=> .ok (.tuple #[v,x,tmps.getD u Yag]) w₄:=by
 simp only[results,h];simp[Sem.run_bind,Result.andThen]
theorem ZrK:(Zg.info? 102).map (·.size)=some 3:=by kernel_rfl
theorem ZrL:(Zg.info? 87).map (·.size)=some 6:=by kernel_rfl
theorem Zop{w:World}{g:Nat}{cs:List Value}(h:RowV g 102 cs w)(hl:cs.length=3):(loadVar 102 ⟨g,0,none⟩).run Zg w=.ok (.agg cs.toArray) w:=
 run_loadVar_row _ g _ _ _ _ _ h underlying102 rfl (by rw[ZrK];simp[hl])
theorem Zkr{w:World}{g:Nat}{cs:List Value}(h:RowV g 87 cs w)(hl:cs.length=6):(loadVar 87 ⟨g,0,none⟩).run Zg w=.ok (.agg cs.toArray) w:=
 run_loadVar_row _ g _ _ _ _ _ h underlying87 rfl (by rw[ZrL];simp[hl])
theorem Zks{fn:Func}{p q u:Tmp}(h:fn.results= #[.cell p 102,.cell q 87,.tmp u]){tmps:Array Value}{w:World}{g k:Nat}{cs ds:List Value}{e:Value}(hp:tmps.getD p Yag=.pointer (some ⟨g,0,none⟩))(hq:tmps.getD q Yag=.pointer (some ⟨k,0,none⟩))(hu:tmps.getD u Yag=e)
  (h1:RowV g 102 cs w)(l1:cs.length=3)(h2:RowV k 87 ds w)(l2:ds.length=6):(results fn tmps).run Zg w=.ok (.tuple #[.agg cs.toArray,.agg ds.toArray,e]) w:=by
 rw[ZgM h,hp,hq,hu];simp[asAddr,Zop h1 l1,Zkr h2 l2,Result.andThen]
theorem Zhl{fn:Func}{p u:Tmp}(h:fn.results= #[.cell p 102,.tmp u]){tmps:Array Value}{w:World}{g:Nat}{cs:List Value}{e:Value}(hp:tmps.getD p Yag=.pointer (some ⟨g,0,none⟩))(hu:tmps.getD u Yag=e)
  (h1:RowV g 102 cs w)(l1:cs.length=3):(results fn tmps).run Zg w=.ok (.tuple #[.agg cs.toArray,e]) w:=by
 rw[results_cell_tmp h,hp,hu];simp[asAddr,Zop h1 l1,Result.andThen]
theorem RowV.drewN{g:Nat}{t:TypeId}{vs:List Value}{w:World}(h:RowV g t vs w)(N:Nat):RowV g t vs (w.drewN N):=h
def vT(t:Tkr):Value:=.agg #[.bool t.steal,.int .i64 t.at_,.int .i64 t.top,.int .i64 t.bot,.int .i64 t.got,.int .i64 t.end_]
def cT(t:Tkr):List Value:=[.bool t.steal,.int .i64 t.at_,.int .i64 t.top,.int .i64 t.bot,.int .i64 t.got,.int .i64 t.end_]
section
variable {w: World}{base g n c s: Nat}{e: TypeId}{xs: List Value}
theorem Zah(h:w.ownsRow base e s (.slice (some ⟨g,0,none⟩) n c) n xs):∃cur,w.heap[g]?=some (.cells cur e (0,0))/\base<=g/\n<=c/\c<=maxLen/\cur.size=c * s/\cur.toList.take (n * s)=xs:=by
 rcases h.2 with⟨e1,_⟩|⟨g',cap,cur,e1,hg,hgg,hnc,hcm,hcs,ht⟩
 ·cases e1
 ·injection e1 with q1 q2 q3
  injection q1 with q1;injection q1 with q1;subst q1 q3;exact⟨cur,hgg,hg,hnc,hcm,hcs,ht⟩
theorem ZaE(h:w.ownsRow base e s (.slice (some ⟨g,0,none⟩) n c) n xs){k:Nat}{v:Value}(hk:xs[k]?=some v):w.cell? ⟨g,k,none⟩=some v:=by obtain⟨cur,h1,_,_,_,_,h2⟩:=Zah h;have hl:k<xs.length:=(Zs.1 hk).1;rw[h.1]at hl;rw[cell_of_row _ _ _ _ _ _ h1,<-hk,<-h2,List.getElem?_take,Zc hl,Array.getElem?_toList]
theorem Za4(h:w.ownsRow base e s (.slice (some ⟨g,0,none⟩) n c) n xs)(k:Nat):w.frozen? ⟨g,k,none⟩=false:=by obtain⟨cur,h1,_⟩:=Zah h;exact frozen_of_row w g k _ _ h1
theorem Zgu(h:w.ownsRow base e s (.slice (some ⟨g,0,none⟩) n c) n xs):base<=g/\g<w.heap.size:=by obtain⟨cur,h1,h2,_⟩:=Zah h;exact⟨h2,(Array.getElem?_eq_some_iff.1 h1).1⟩
theorem ZbU(h:w.ownsRow base e s (.slice (some ⟨g,0,none⟩) n c) n xs)(k:Nat)(v:Value):(w.setCell ⟨g,k,none⟩ v).ownsRow base e s (.slice (some ⟨g,0,none⟩) n c) n (xs.set k v):=by obtain⟨cur,h1,h2,h3,h4,h5,h6⟩:=Zah h;refine⟨by rw[ZU];exact h.1,.inr ⟨g,c,cur.setIfInBounds k v,rfl,h2,Yai w g k _ _ _ h1,h3,h4,by rw[Array.size_setIfInBounds];exact h5,?_⟩⟩;rw[Array.toList_setIfInBounds,<-h6,List.take_set]
theorem Zan{v:Value}{m:Nat}(h:w.ownsRow base e s v m xs){b k:Nat}{u:Value}(hne:v.ownBlock≠some b):(w.setCell ⟨b,k,none⟩ u).ownsRow base e s v m xs:=by
 refine⟨h.1,?_⟩;rcases h.2 with hn|⟨g',cap,cur,rfl,hg,hgg,rest⟩
 ·exact .inl hn
 ·refine .inr ⟨g',cap,cur,rfl,hg,?_,rest⟩
  rw[Yah _ _ _ _ (fun e=>hne (by rw[e];rfl))];exact hgg
theorem Zaf{v:Value}{m b:Nat}{t:TypeId}{cs:Array Value}{fr:Nat×Nat}(h:w.ownsRow base e s v m xs)(hb:w.heap[b]?=some (.cells cs t fr))(hne:e≠t):v.ownBlock≠some b:=by
 rcases h.2 with⟨rfl,_⟩|⟨g',cap,cur,rfl,hg,hgg,rest⟩
 ·intro q;cases q
 ·intro q
  have q:g'=b:=by simpa[Value.ownBlock]using q
  subst q;rw[hgg]at hb;injection hb with hb;injection hb with _ hb _;exact hne hb
end
theorem Zoq{w:World}{b g k:Nat}{v u:Value}{zs:List Int}(h:OwnI w b v zs)(hne:0<zs.length->v.ownBlock≠some g):OwnI (w.setCell ⟨g,k,none⟩ u) b v zs:=by
 by_cases h0:0<zs.length
 ·exact Zan h (hne h0)
 ·obtain rfl: zs = []:=Yb (by omega)
  refine⟨rfl,?_⟩;rcases h.2 with q|⟨g',cap,cur,rfl,hg,hgg,hnc,hcm,hcs,ht⟩
  ·exact .inl q
  ·by_cases e: g' = g
   ·subst e
    exact .inr ⟨g',cap,cur.setIfInBounds k u,rfl,hg,Yai w g' k _ _ _ hgg,hnc,hcm,by rw[Array.size_setIfInBounds];exact hcs,by simp⟩
   ·exact .inr ⟨g',cap,cur,rfl,hg,by rw[Yah _ _ _ _ e];exact hgg,hnc,hcm,hcs,ht⟩
def Za5(f:Nat->List Value)(m:Nat):List Value:=(Zo m).flatMap f
section
variable {f: Nat -> List Value}{m s: Nat}
theorem ZbE(f:Nat->List Value)(m:Nat):Za5 f (m+1)=Za5 f m++f m:=by unfold Za5;rw[List.range_succ,List.flatMap_append];simp
theorem Zey(hf:∀j,(f j).length=s):∀m:Nat,(Za5 f m).length=m * s
 |0=>by simp[Za5]
 |m+1=>by rw[ZbE,List.length_append,Zey hf m,hf,Nat.succ_mul]
theorem ZbR{f':Nat->List Value}:∀{m:Nat},(∀j,j<m->f j=f' j)->Za5 f m=Za5 f' m
 |0,_=>rfl
 |m+1,h=>by rw[ZbE,ZbE,ZbR (m:=m) fun j hj=>h j (by omega),h m (by omega)]
theorem ZbK(hf:∀j,(f j).length=s){i:Nat}(hi:i<s):∀{m j:Nat},j<m->(Za5 f m)[s * j+i]?=(f j)[i]?
  | m + 1, j, hj => by
    have hl:=Zey hf m;rw[ZbE];by_cases h:j<m
    · have h1:s * j+i<m * s:=by
        have:s * (j+1)<=s * m:=Nat.mul_le_mul_left s h;rw[Nat.mul_succ]at this;rw[YM m s];omega
      rw[Ym (by omega)];exact ZbK hf hi h
    · obtain rfl:j=m:=by omega
      rw[List.getElem?_append_right (by rw[hl,YM];omega),hl,YM j s,Nat.add_sub_cancel_left]
theorem ZcR(hf:∀j,(f j).length=s){i:Nat}(hi:i<s)(v:Value):∀{m j:Nat},j<m->(Za5 f m).set (s * j+i) v=Za5 (updG f j ((f j).set i v)) m
  | m + 1, j, hj => by
    have hl:=Zey hf m;rw[ZbE,ZbE];by_cases h:j<m
    · have h1:s * j+i<m * s:=by
        have:s * (j+1)<=s * m:=Nat.mul_le_mul_left s h;rw[Nat.mul_succ]at this;rw[YM m s];omega
      rw[List.set_append_left _ _ (by omega),ZcR hf hi v h,Zad _ _ (by omega:m≠j)]
    · obtain rfl:j=m:=by omega
      rw[List.set_append_right _ _ (by rw[hl,YM];omega),hl,YM j s,Nat.add_sub_cancel_left,Zae];congr 1;exact ZbR fun q hq=>(Zad _ _ (by omega)).symm
end
structure GAd where
 gO:Nat
 cO:Nat
 vL:Value
 gD:Nat
 cD:Nat
 gT:Nat
 cT:Nat
 gF:Nat
 cF:Nat
 Rv:Nat->Value
def GAd.vO(a:GAd)(m:Nat):Value:=.slice (some ⟨a.gO,0,none⟩) m a.cO
def GAd.vD(a:GAd)(m:Nat):Value:=.slice (some ⟨a.gD,0,none⟩) m a.cD
def GAd.vT(a:GAd)(m:Nat):Value:=.slice (some ⟨a.gT,0,none⟩) m a.cT
def GAd.vF(a:GAd)(m:Nat):Value:=.slice (some ⟨a.gF,0,none⟩) m a.cF
def Zkt(m:Nat)(a:GAd):List Value:=[a.vO m,a.vL,a.vD m,a.vT m,a.vF m]
def dqC(g:Gng)(a:GAd)(j:Nat):List Value:=[a.Rv j,.int .i64 (g.T j),.int .i64 (g.B j)]
def frL(m:Nat)(g:Gng):List Int:=(Zo m).map fun c=>(g.fr c:Int)
structure IsGng(w:World)(base m:Nat)(g:Gng)(L:List Int)(a:GAd):Prop where
 ol:g.O.length=m
 on:OwnI w base (a.vO m) g.O
 left:OwnI w base a.vL L
 dqs:w.ownsRow base 102 3 (a.vD m) m (Za5 (dqC g a) m)
 tks:w.ownsRow base 87 6 (a.vT m) m (Za5 (fun c=>cT (g.tk c)) m)
 frm:OwnI w base (a.vF m) (frL m g)
 ring:∀j,j<m->OwnI w base (a.Rv j) (g.R j)
 oL:0<L.length->a.vL.ownBlock≠some a.gO
 oF:a.gF≠a.gO
 oR:∀j,j<m->(a.Rv j).ownBlock≠some a.gO
 fL:a.vL.ownBlock≠some a.gF
 fR:∀j,j<m->(a.Rv j).ownBlock≠some a.gF
section
variable {w w': World}{base m: Nat}{g: Gng}{L: List Int}{a: GAd}
theorem ZhY(g:Gng)(a:GAd):∀j,(dqC g a j).length=3:=fun _=>rfl
theorem ZcZ(g:Gng):∀c,(cT (g.tk c)).length=6:=fun _=>rfl
theorem Zc0(m:Nat)(g:Gng):(frL m g).length=m:=by simp[frL]
theorem Zlo{c:Nat}(hc:c<m):(frL m g)[c]?=some (g.fr c:Int):=by unfold frL;rw[ZO,List.getElem?_range hc];rfl
theorem IsGng.below(h:IsGng w base m g L a)(hb:Below w.heap.size w w'):IsGng w' base m g L a:=
 ⟨h.ol,h.on.below hb,h.left.below hb,Zac h.dqs hb,Zac h.tks hb,h.frm.below hb,fun j hj=>(h.ring j hj).below hb,h.oL,h.oF,h.oR,h.fL,h.fR⟩
theorem IsGng.down{base':Nat}(h:IsGng w base m g L a)(hb:base'<=base):IsGng w base' m g L a:=
 ⟨h.ol,h.on.down hb,h.left.down hb,ZaG h.dqs hb,ZaG h.tks hb,h.frm.down hb,fun j hj=>(h.ring j hj).down hb,h.oL,h.oF,h.oR,h.fL,h.fR⟩
theorem IsGng.dq(h:IsGng w base m g L a){j i:Nat}(hj:j<m){v:Value}(hi:(dqC g a j)[i]?=some v):w.cell? ⟨a.gD,3 * j+i,none⟩=some v:=
 ZaE h.dqs (by rw[ZbK (ZhY g a) (Zs.1 hi).1 hj];exact hi)
theorem IsGng.tk(h:IsGng w base m g L a){c i:Nat}(hc:c<m){v:Value}(hi:(cT (g.tk c))[i]?=some v):w.cell? ⟨a.gT,6 * c+i,none⟩=some v:=
 ZaE h.tks (by rw[ZbK (ZcZ g) (Zs.1 hi).1 hc];exact hi)
theorem IsGng.fr(h:IsGng w base m g L a){c:Nat}(hc:c<m):w.cell? ⟨a.gF,c,none⟩=some (.int .i64 (g.fr c:Int)):=by have h1:=h.frm;unfold OwnI GAd.vF at h1;rw[Zc0]at h1;exact ZaE h1 (by rw[ZO,Zlo hc];rfl)
theorem IsGng.onc(h:IsGng w base m g L a){c:Nat}(hc:c<m):w.cell? ⟨a.gO,c,none⟩=some (.int .i64 (g.O.getD c 0)):=by
 have h1:=h.on;unfold OwnI GAd.vO at h1;rw[h.ol]at h1;refine ZaE h1 ?_;have hc':c<g.O.length:=by rw[h.ol];exact hc
 rw[ZO,Zh hc',List.getD_eq_getElem?_getD,Zh hc'];rfl
theorem IsGng.onF(h:IsGng w base m g L a):w.ownsRow base 3 1 (a.vO m) m (g.O.map (.int .i64))/\w.ownsRow base 3 1 (a.vF m) m ((frL m g).map (.int .i64)):=by have h1:=h.on;have h2:=h.frm;unfold OwnI at h1 h2;rw[h.ol]at h1;rw[Zc0]at h2;exact⟨h1,h2⟩
theorem IsGng.frozen(h:IsGng w base m g L a)(k:Nat):w.frozen? ⟨a.gD,k,none⟩=false/\w.frozen? ⟨a.gT,k,none⟩=false/\w.frozen? ⟨a.gF,k,none⟩=false/\w.frozen? ⟨a.gO,k,none⟩=false:=
 ⟨Za4 h.dqs k,Za4 h.tks k,Za4 h.onF.2 k,Za4 h.onF.1 k⟩
theorem IsGng.lts(h:IsGng w base m g L a):(base<=a.gO/\a.gO<w.heap.size)/\(base<=a.gD/\a.gD<w.heap.size)/\(base<=a.gT/\a.gT<w.heap.size)/\(base<=a.gF/\a.gF<w.heap.size):=
 ⟨Zgu h.onF.1,Zgu h.dqs,Zgu h.tks,Zgu h.onF.2⟩
theorem IsGng.far(h:IsGng w base m g L a){b:Nat}{t:TypeId}{cs:Array Value}{fr:Nat×Nat}(hb:w.heap[b]?=some (.cells cs t fr))(h1:3≠t)(h2:102≠t)(h3:87≠t)(k:Nat)(v:Value):
  IsGng (w.setCell ⟨b,k,none⟩ v) base m g L a:=
 ⟨h.ol,Zan h.on (Zaf h.on hb h1),Zan h.left (Zaf h.left hb h1),Zan h.dqs (Zaf h.dqs hb h2),Zan h.tks (Zaf h.tks hb h3),Zan h.frm (Zaf h.frm hb h1),
  fun j hj=>Zan (h.ring j hj) (Zaf (h.ring j hj) hb h1),h.oL,h.oF,h.oR,h.fL,h.fR⟩
theorem IsGng.putD(h:IsGng w base m g L a){j:Nat}(hj:j<m){R':List Int}(T' B':Int){v:Value}(hv:OwnI w base v R')(h1:v.ownBlock≠some a.gO)(h2:v.ownBlock≠some a.gF):
  IsGng (((w.setCell ⟨a.gD,3 * j,none⟩ v).setCell ⟨a.gD,3 * j+1,none⟩ (.int .i64 T')).setCell ⟨a.gD,3 * j+2,none⟩ (.int .i64 B')) base m {g with R:=updG g.R j R',T:=updG g.T j T',B:=updG g.B j B'} L {a with Rv:=updG a.Rv j v}:=by
 obtain⟨cur,hb,_⟩:=Zah h.dqs;have r1:=ZbU h.dqs (3 * j) v;have r2:=ZbU r1 (3 * j+1) (.int .i64 T');have r3:=ZbU r2 (3 * j+2) (.int .i64 B');obtain⟨c1,b1,_⟩:=Zah r1;obtain⟨c2,b2,_⟩:=Zah r2;have far:∀{e:TypeId} {s n:Nat} {u:Value} {ys:List Value},e≠102->w.ownsRow base e s u n ys->(((w.setCell ⟨a.gD,3 * j,none⟩ v).setCell ⟨a.gD,3 * j+1,none⟩ (.int .i64 T')).setCell ⟨a.gD,3 * j+2,none⟩ (.int .i64 B')).ownsRow base e s u n ys:=fun he hy=>by have y1:=Zan (k:=3 * j) (u:=v) hy (Zaf hy hb he);have y2:=Zan (k:=3 * j+1) (u:=.int .i64 T') y1 (Zaf y1 b1 he);exact Zan y2 (Zaf y2 b2 he)
 refine⟨h.ol,far (by decide) h.on,far (by decide) h.left,?_,far (by decide) h.tks,far (by decide) h.frm,fun i hi=> ?_,h.oL,h.oF,fun i hi=> ?_,h.fL,fun i hi=> ?_⟩
 ·have e0:=ZcR (f:=dqC g a) (s:=3) (ZhY g a) (i:=0) (by decide) v hj
  rw[Zy]at e0;rw[e0]at r3;have hlen:∀(f:Nat->List Value) (u:List Value),(∀i,(f i).length=3)->u.length=3->∀i,(updG f j u i).length=3:=fun f u hf hu i=>by
   by_cases e:i=j
   ·rw[e,Zae];exact hu
   ·rw[Zad _ _ e];exact hf i
  have l1:=hlen (dqC g a) ((dqC g a j).set 0 v) (ZhY g a) rfl;rw[ZcR l1 (i:=1) (by decide) _ hj,Zae]at r3;have l2:=hlen (updG (dqC g a) j ((dqC g a j).set 0 v)) (((dqC g a j).set 0 v).set 1 (.int .i64 T')) l1 rfl;rw[ZcR l2 (i:=2) (by decide) _ hj,Zae]at r3;have e3:Za5 (updG (updG (updG (dqC g a) j ((dqC g a j).set 0 v)) j (((dqC g a j).set 0 v).set 1 (.int .i64 T'))) j ((((dqC g a j).set 0 v).set 1 (.int .i64 T')).set 2 (.int .i64 B'))) m=Za5 (dqC {g with R:=updG g.R j R',T:=updG g.T j T',B:=updG g.B j B'} {a with Rv:=updG a.Rv j v}) m:=ZbR fun i hi=>by
   unfold dqC;by_cases e:i=j
   ·subst e;simp only[Zae];rfl
   ·simp only[Zad _ _ e]
  rw[e3]at r3;exact r3
 ·show OwnI _ base (updG a.Rv j v i) (updG g.R j R' i)
  by_cases e:i=j
  ·rw[e,Zae,Zae];exact far (by decide) hv
  ·rw[Zad _ _ e,Zad _ _ e];exact far (by decide) (h.ring i hi)
 ·show (updG a.Rv j v i).ownBlock ≠ _
  by_cases e:i=j
  ·rw[e,Zae];exact h1
  ·rw[Zad _ _ e];exact h.oR i hi
 ·show (updG a.Rv j v i).ownBlock ≠ _
  by_cases e:i=j
  ·rw[e,Zae];exact h2
  ·rw[Zad _ _ e];exact h.fR i hi
theorem Zdv{f:Nat->List Value}{m s:Nat}(hf:∀j,(f j).length=s){c:Nat}(hc:c<m){u:List Value}(hu:u.length=s){i:Nat}(hi:i<s)(v:Value):
  (Za5 (updG f c u) m).set (s * c+i) v=Za5 (updG f c (u.set i v)) m:=by
 have hl:∀j,(updG f c u j).length=s:=fun j=>by
  by_cases e:j=c
  ·rw[e,Zae];exact hu
  ·rw[Zad _ _ e];exact hf j
 rw[ZcR hl hi v hc,Zae];refine ZbR fun j _=> ?_;by_cases e:j=c
 ·rw[e,Zae,Zae]
 ·rw[Zad _ _ e,Zad _ _ e,Zad _ _ e]
theorem IsGng.putT(h:IsGng w base m g L a){c:Nat}(hc:c<m)(t:Tkr):
  IsGng ((((((w.setCell ⟨a.gT,6 * c,none⟩ (.bool t.steal)).setCell ⟨a.gT,6 * c+1,none⟩ (.int .i64 t.at_)).setCell ⟨a.gT,6 * c+2,none⟩ (.int .i64 t.top)).setCell ⟨a.gT,6 * c+3,none⟩ (.int .i64 t.bot)).setCell ⟨a.gT,6 * c+4,none⟩ (.int .i64 t.got)).setCell ⟨a.gT,6 * c+5,none⟩ (.int .i64 t.end_)) base m {g with tk:=updG g.tk c t} L a:=by
 have r1:=ZbU h.tks (6 * c) (.bool t.steal);have r2:=ZbU r1 (6 * c+1) (.int .i64 t.at_);have r3:=ZbU r2 (6 * c+2) (.int .i64 t.top);have r4:=ZbU r3 (6 * c+3) (.int .i64 t.bot);have r5:=ZbU r4 (6 * c+4) (.int .i64 t.got);have r6:=ZbU r5 (6 * c+5) (.int .i64 t.end_);obtain⟨c0,b0,_⟩:=Zah h.tks;obtain⟨c1,b1,_⟩:=Zah r1;obtain⟨c2,b2,_⟩:=Zah r2;obtain⟨c3,b3,_⟩:=Zah r3;obtain⟨c4,b4,_⟩:=Zah r4;obtain⟨c5,b5,_⟩:=Zah r5;have far:∀{e:TypeId} {s n:Nat} {u:Value} {ys:List Value},e≠87->w.ownsRow base e s u n ys->((((((w.setCell ⟨a.gT,6 * c,none⟩ (.bool t.steal)).setCell ⟨a.gT,6 * c+1,none⟩ (.int .i64 t.at_)).setCell ⟨a.gT,6 * c+2,none⟩ (.int .i64 t.top)).setCell ⟨a.gT,6 * c+3,none⟩ (.int .i64 t.bot)).setCell ⟨a.gT,6 * c+4,none⟩ (.int .i64 t.got)).setCell ⟨a.gT,6 * c+5,none⟩ (.int .i64 t.end_)).ownsRow base e s u n ys:=fun he hy=>by have y1:=Zan (k:=6 * c) (u:=.bool t.steal) hy (Zaf hy b0 he);have y2:=Zan (k:=6 * c+1) (u:=.int .i64 t.at_) y1 (Zaf y1 b1 he);have y3:=Zan (k:=6 * c+2) (u:=.int .i64 t.top) y2 (Zaf y2 b2 he);have y4:=Zan (k:=6 * c+3) (u:=.int .i64 t.bot) y3 (Zaf y3 b3 he);have y5:=Zan (k:=6 * c+4) (u:=.int .i64 t.got) y4 (Zaf y4 b4 he);have y6:=Zan (k:=6 * c+5) (u:=.int .i64 t.end_) y5 (Zaf y5 b5 he);exact y6
 refine⟨h.ol,far (by decide) h.on,far (by decide) h.left,far (by decide) h.dqs,?_,far (by decide) h.frm,fun i hi=>far (by decide) (h.ring i hi),h.oL,h.oF,h.oR,h.fL,h.fR⟩;have hf:=ZcZ g;have e0:=ZcR (f:=fun c=>cT (g.tk c)) hf (i:=0) (by decide) (.bool t.steal) hc;rw[Zy]at e0;rw[e0,Zdv hf hc rfl (by decide),Zdv hf hc rfl (by decide),Zdv hf hc rfl (by decide),Zdv hf hc rfl (by decide),Zdv hf hc rfl (by decide)]at r6;have e6:Za5 (updG (fun c=>cT (g.tk c)) c (((((((cT (g.tk c)).set 0 (.bool t.steal)).set 1 (.int .i64 t.at_)).set 2 (.int .i64 t.top)).set 3 (.int .i64 t.bot)).set 4 (.int .i64 t.got)).set 5 (.int .i64 t.end_))) m=Za5 (fun k=>cT (updG g.tk c t k)) m:=ZbR fun i hi=>by
  by_cases e:i=c
  ·rw[e,Zae,Zae];rfl
  ·rw[Zad _ _ e,Zad _ _ e]
 rw[e6]at r6;exact r6
theorem IsGng.putF(h:IsGng w base m g L a){c:Nat}(hc:c<m)(x:Nat):IsGng (w.setCell ⟨a.gF,c,none⟩ (.int .i64 (x:Int))) base m {g with fr:=updG g.fr c x} L a:=by
 obtain⟨c0,b0,_⟩:=Zah h.onF.2;have e:(frL m g).set c (x:Int)=frL m {g with fr:=updG g.fr c x}:=by
  apply List.ext_getElem?;intro i;by_cases him:i<m
  ·rw [Zlo him]
   by_cases e:i=c
   ·subst e
    rw[ZJ (by rw[Zc0];exact him)];show some (x:Int)=some ((updG g.fr i x i:Nat):Int);rw[Zae]
   ·rw [List.getElem?_set_ne (fun q => e q.symm),Zlo him]
    show some ((g.fr i:Nat):Int)=some ((updG g.fr c x i:Nat):Int);rw[Zad _ _ e]
  ·rw[Zt (by rw[ZU,Zc0];omega),Zt (by rw[Zc0];omega)]
 refine⟨h.ol,Zan h.on ?_,Zan h.left h.fL,Zan h.dqs (Zaf h.dqs b0 (by decide)),Zan h.tks (Zaf h.tks b0 (by decide)),?_,fun j hj=>Zan (h.ring j hj) (h.fR j hj),h.oL,h.oF,h.oR,h.fL,h.fR⟩
 ·intro q
  have q:a.gO=a.gF:=by simpa[GAd.vO,Value.ownBlock]using q
  exact h.oF q.symm
 ·rw [<- e]
  have hfr:=h.frm;exact Zc7 hfr (by rw[Zc0];exact hc) _
theorem IsGng.putO(h:IsGng w base m g L a){c:Nat}(hc:c<m)(x:Int):IsGng (w.setCell ⟨a.gO,c,none⟩ (.int .i64 x)) base m {g with O:=g.O.set c x} L a:=by
 obtain⟨c0,b0,_⟩:=Zah h.onF.1;refine⟨by show(g.O.set c x).length=m;rw[ZU];exact h.ol,Zc7 h.on (by rw[h.ol];exact hc) _,Zoq h.left h.oL,Zan h.dqs (Zaf h.dqs b0 (by decide)),Zan h.tks (Zaf h.tks b0 (by decide)),Zan h.frm ?_,fun j hj=>Zan (h.ring j hj) (h.oR j hj),h.oL,h.oF,h.oR,h.fL,h.fR⟩;intro q;have q:a.gF=a.gO:=by simpa[GAd.vF,Value.ownBlock]using q
 exact h.oF q
end
def plN(n:Nat)(k:Int):Nat:=(if k<0 then 0 else k).toNat%n
theorem Zgv(R:List Int)(k:Int):ZaF R k=R.getD (plN R.length k) 0:=rfl
section
variable {A: Option Addr}{n c: Nat}{R: List Int}{A': Option Addr}{n' c': Nat}{R': List Int}
def Zsu(R:List Int)(T B:Int)(R':List Int)(T' B':Int):Prop:=R=R'/\T=T'/\B=B'
instance (R:List Int) (T B:Int) (R':List Int) (T' B':Int):Decidable (Zsu R T B R' T' B'):=by unfold Zsu;infer_instance
theorem Zsv{w:World}(o1 o2:Obj)(N:Nat):Below w.heap.size w (((w.alloc o1).alloc o2).drewN N):=below_drewN ((Zaa o1).trans ((Zaa (w:=w.alloc o1) o2).mono (by simp))) N
end
theorem Zsw(n:Int):∃(k:Int) (b:Bool),(b=true/\n<=64↔SizeOk n)/\∀w:World,Tab64 w->Calls Zg 129 #[.int .i64 n] w fun e w'=>e=.returned (.tuple #[.int .i64 k,.bool b])/\w=w':=by
 by_cases h:∃k:Nat,k<40/\n=((2^k:Nat):Int)
 ·obtain ⟨k,hk,rfl⟩:=h
  refine⟨k,true,⟨fun⟨_,q⟩=> ?_,fun q=>⟨rfl,q.bounds.2⟩⟩,fun w hT=>Zjp k hk w hT⟩;have h7:k<7:=by
   rcases Zv k 7 with h|h
   ·exact h
   ·have:=Nat.pow_le_pow_right (show 0 < 2 by decide) h
    omega
  exact SizeOk.of_pow h7
 ·refine ⟨0,false,⟨fun q => absurd q.1 (by decide),fun q => ?_⟩,fun w _ => ZmU n w fun k hk e => h ⟨k,hk,e⟩⟩
  obtain⟨k,hk,e⟩:=q.pow;exact absurd ⟨k,by omega,e⟩ h
theorem Zlp(n:Int)(w:World)(hT:DTab w):Calls Zg 144 #[.int .i64 n] w fun e w'=>e=.returned (.bool (decide (SizeOk n)))/\w=w':=by
  obtain⟨k,b,hb,C⟩:=Zsw n;have HC:=Zf (fun w' (e:w=w')=>C w' (e▸hT))
  clear C hT;obtain⟨r,hr⟩:∃r,r=decide (SizeOk n):=⟨_,rfl⟩;rw[<-hr];cases b with
  | false =>
    have e:r=false:=by rw[hr];exact Zd fun q=>absurd (hb.mpr q).1 (by decide)
    subst e;clear hb hr;go_enter func144,ntmps144;go_wp2_with(go_at_call 129;refine(HC.out _ rfl).mono ?_;rintro e w' ⟨rfl,rfl⟩)
    go_ret;exact⟨rfl,rfl⟩
  | true =>
    by_cases h:n<=64
    · have e:r=true:=by rw[hr];exact Ze (hb.mp ⟨rfl,h⟩)
      subst e;have h2:decide (n<=64)=true:=Ze h;clear hb hr;go_enter func144,ntmps144;go_wp2_with(go_at_call 129;refine(HC.out _ rfl).mono ?_;rintro e w' ⟨rfl,rfl⟩);go_ret;exact⟨rfl,rfl⟩
    · have e:r=false:=by rw[hr];exact Zd fun q=>h (hb.mpr q).2
      subst e;have h2:decide (n<=64)=false:=Zd h;clear hb hr;go_enter func144,ntmps144;go_wp2_with(go_at_call 129;refine(HC.out _ rfl).mono ?_;rintro e w' ⟨rfl,rfl⟩);go_ret;exact⟨rfl,rfl⟩
theorem Zhm(A:Option Addr)(n c:Nat)(T B:Int)(w:World)(hn:n<=1000)(hT:DTab w):
  Calls Zg 163 #[.agg #[.slice A n c,.int .i64 T,.int .i64 B]] w fun e w'=>e=.returned (.int .i64 (Zh0 n T B))/\Below w.heap.size w w':=by
 have CL:=Zf (Zlp (n:Int) (w.alloc (.cells #[.slice A n c,.int .i64 T,.int .i64 B] 102)) (hT.via (Zaa _)));have CC:=Zf (fun W=>ZcE T W);have HB:=Zf (Zaa (w:=w) (.cells #[.slice A n c,.int .i64 T,.int .i64 B] 102));obtain⟨r,hr⟩:∃r,r=Zh0 n T B:=⟨_,rfl⟩;rw[<-hr];have HY:Hid (ChkQ n T B->r=0):=Zf fun q=>by rw[hr];unfold Zh0;rw[Zc q]
 have HNO:Hid (¬ChkQ n T B->r=120):=Zf fun q=>by rw[hr];unfold Zh0;rw[Zb q]
 clear hr hT;by_cases h1:¬SizeOk n
 ·obtain rfl: r = 120:=HNO.out fun q => h1 q.1
  rw[Zd h1]at CL;clear h1 HY HNO;go_enter func163,ntmps163
  go_wp2_with(first
   |(go_at_call 144;refine CL.out.mono ?_;rintro e w' ⟨rfl,rfl⟩)
   |(go_at_call 180;refine(CC.out _).mono ?_;rintro e w' ⟨rfl,rfl⟩))
  go_ret;exact⟨rfl,HB.out⟩
 replace h1:=Classical.not_not.mp h1;rw[Ze h1]at CL;by_cases h2:¬(0<=T/\T<=1099511627775)
 ·obtain rfl: r = 120:=HNO.out fun q => h2 ⟨q.2.1,q.2.2.1⟩
  obtain⟨z,hz⟩:∃z,z=chk T:=⟨_,rfl⟩;have hz0:z≠0:=fun e=>h2 (Zfw (hz▸e));rw[<-hz]at CC;have hzb:(z !=0)=true:=bne_iff_ne.mpr hz0;clear h1 h2 HY HNO hz hz0;go_enter func163,ntmps163
  go_wp2_with(first
   |(go_at_call 144;refine CL.out.mono ?_;rintro e w' ⟨rfl,rfl⟩)
   |(go_at_call 180;refine(CC.out _).mono ?_;rintro e w' ⟨rfl,rfl⟩))
  go_ret;exact⟨rfl,HB.out⟩
 replace h2:=Classical.not_not.mp h2;obtain⟨h2,h3⟩:=h2;rw[ZgP h2 h3]at CC;by_cases h4:B<T - 1
 ·obtain rfl: r = 120:=HNO.out fun q => by have:=q.2.2.2.1; omega
  have e4:decide (B<T - 1)=true:=Ze h4;clear h1 h4 HY HNO;go_enter func163,ntmps163
  go_wp2_with(first
   |(go_at_call 144;refine CL.out.mono ?_;rintro e w' ⟨rfl,rfl⟩)
   |(go_at_call 180;refine(CC.out _).mono ?_;rintro e w' ⟨rfl,rfl⟩))
  go_ret;exact⟨rfl,HB.out⟩
 have e4:decide (B<T - 1)=false:=Zd h4;by_cases h5:T+n<B
 ·obtain rfl: r = 120:=HNO.out fun q => by have:=q.2.2.2.2; omega
  have e5:decide (T+n<B)=true:=Ze h5;clear h1 h4 h5 HY HNO;go_enter func163,ntmps163
  go_wp2_with(first
   |(go_at_call 144;refine CL.out.mono ?_;rintro e w' ⟨rfl,rfl⟩)
   |(go_at_call 180;refine(CC.out _).mono ?_;rintro e w' ⟨rfl,rfl⟩))
  go_ret;exact⟨rfl,HB.out⟩
 ·obtain rfl: r = 0:=HY.out ⟨h1,h2,h3,by omega,by omega⟩
  have e5:decide (T+n<B)=false:=Zd h5;clear h1 h4 h5 HY HNO;go_enter func163,ntmps163
  go_wp2_with(first
   |(go_at_call 144;refine CL.out.mono ?_;rintro e w' ⟨rfl,rfl⟩)
   |(go_at_call 180;refine(CC.out _).mono ?_;rintro e w' ⟨rfl,rfl⟩))
  go_ret;exact⟨rfl,HB.out⟩
theorem ZdL(A:Option Addr)(n c:Nat)(T B k:Int)(w:World)(hn:0<n)(hln:n<=1000)(hk1:k<=9223372036854775807):
  Calls Zg 203 #[.agg #[.slice A n c,.int .i64 T,.int .i64 B],.int .i64 k] w fun e w'=>e=.returned (.int .i64 (plN n k))/\Below w.heap.size w w':=by
 have HB:=Zf (Zaa (w:=w) (.cells #[.slice A n c,.int .i64 T,.int .i64 B] 102));obtain⟨p,hp⟩:∃p,p=plN n k:=⟨_,rfl⟩;have hpn:p<n:=by rw[hp];exact Nat.mod_lt _ hn
 rw[<-hp];by_cases h0:k<0
 ·obtain rfl: p = 0:=by rw [hp]; unfold plN; rw [Zc h0]; simp
  have hmx:max k 0=0:=by omega
  have hmx2:decide (k<0)=true:=Ze h0;clear hp;go_enter func203,ntmps203;go_wp2;go_ret;exact⟨rfl,HB.out⟩
 ·obtain ⟨q,rfl⟩:∃ q: Nat,k = q:=⟨k.toNat,by omega⟩
  have hp2:p=q%n:=by rw[hp];unfold plN;rw[Zb h0];simp
  have hmod:Int.tmod (q:Int) (n:Int)=(p:Int):=by rw[hp2];rfl
  clear hp hp2;go_enter func203,ntmps203;go_wp2;go_ret;exact⟨rfl,HB.out⟩
section
variable {A: Option Addr}{n c: Nat}{R: List Int}{A': Option Addr}{n' c': Nat}{R': List Int}
end
end Go.Proofs.YtfahabphncmbfaaGreatDoor
