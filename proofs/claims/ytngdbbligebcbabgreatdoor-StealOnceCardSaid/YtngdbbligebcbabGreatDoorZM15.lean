import Derived.Test.YtngdbbligebcbabGreatDoorZM13
import Derived.Test.YtngdbbligebcbabGreatDoorZM14
import Derived.Test.YtngdbbligebcbabGreatDoorChecked
import Derived.Test.YtngdbbligebcbabGreatDoorZM1
import Derived.KernelRfl
import Derived.WalkKit
import Derived.WalkSmall
import Derived.Handy
import Derived.Lib.Hide
import Derived.BigQuiet
import Derived.Deep.QuietTactic
import Derived.StillTailTactics
import Derived.Test.YtngdbbligebcbabGreatDoorZM6
import Derived.Deep.RegionWith
set_option linter.unusedVariables false
namespace Go.Proofs.YtngdbbligebcbabGreatDoor
open Go Go.RowKit
section
variable {w: World} {base g n c s: Nat} {e: TypeId} {xs: List Value}
theorem rowN_block(h:w.ownsRow base e s (.slice (some ⟨g,0,none⟩) n c) n xs): ∃cur,w.heap[g]? =some (.cells cur e (0,0))/\base<=g/\n<=c/\c<=maxLen/\cur.size=c * s/\cur.toList.take (n * s)=xs:=by
 rcases h.2 with⟨e1,_⟩|⟨g',cap,cur,e1,hg,hgg,hnc,hcm,hcs,ht⟩
 ·cases e1
 ·injection e1 with q1 q2 q3
  injection q1 with q1;injection q1 with q1;subst q1 q3;exact⟨cur,hgg,hg,hnc,hcm,hcs,ht⟩
theorem rowN_cell(h:w.ownsRow base e s (.slice (some ⟨g,0,none⟩) n c) n xs){k:Nat}{v:Value}(hk:xs[k]? =some v):w.cell? ⟨g,k,none⟩=some v:=by
 obtain⟨cur,h1,_,_,_,_,h2⟩:=rowN_block h;have hl:k<xs.length:=(List.getElem?_eq_some_iff.1 hk).1
 rw[h.1]at hl;rw[cell_of_row _ _ _ _ _ _ h1,<-hk,<-h2,List.getElem?_take,if_pos hl,Array.getElem?_toList]
theorem rowN_frozen(h:w.ownsRow base e s (.slice (some ⟨g,0,none⟩) n c) n xs)(k:Nat):w.frozen? ⟨g,k,none⟩=false:=by
 obtain⟨cur,h1,_⟩:=rowN_block h;exact frozen_of_row w g k _ _ h1
theorem rowN_lt(h:w.ownsRow base e s (.slice (some ⟨g,0,none⟩) n c) n xs):base<=g/\g<w.heap.size:=by
 obtain⟨cur,h1,h2,_⟩:=rowN_block h;exact⟨h2,(Array.getElem?_eq_some_iff.1 h1).1⟩
theorem rowN_set(h:w.ownsRow base e s (.slice (some ⟨g,0,none⟩) n c) n xs)(k:Nat)(v:Value):(w.setCell ⟨g,k,none⟩ v).ownsRow base e s (.slice (some ⟨g,0,none⟩) n c) n (xs.set k v):=by
 obtain⟨cur,h1,h2,h3,h4,h5,h6⟩:=rowN_block h;refine⟨by rw[List.length_set];exact h.1,.inr ⟨g,c,cur.setIfInBounds k v,rfl,h2,heap_setCell_same w g k _ _ _ h1,h3,h4,by rw[Array.size_setIfInBounds];exact h5,?_⟩⟩
 rw[Array.toList_setIfInBounds,<-h6,List.take_set]
theorem rowN_far{v:Value}{m:Nat}(h:w.ownsRow base e s v m xs){b k:Nat}{u:Value}(hne:v.ownBlock≠some b):(w.setCell ⟨b,k,none⟩ u).ownsRow base e s v m xs:=by
 refine⟨h.1,?_⟩
 rcases h.2 with hn|⟨g',cap,cur,rfl,hg,hgg,rest⟩
 ·exact .inl hn
 ·refine .inr ⟨g',cap,cur,rfl,hg,?_,rest⟩
  rw[heap_setCell_other _ _ _ _ (fun e=>hne (by rw[e];rfl))]
  exact hgg
theorem rowN_types{v:Value}{m b:Nat}{t:TypeId}{cs:Array Value}{fr:Nat×Nat}(h:w.ownsRow base e s v m xs)(hb:w.heap[b]? =some (.cells cs t fr))(hne:e≠t):v.ownBlock≠some b:=by
 rcases h.2 with⟨rfl,_⟩|⟨g',cap,cur,rfl,hg,hgg,rest⟩
 ·intro q;cases q
 ·intro q
  have q:g'=b:=by simpa[Value.ownBlock]using q
  subst q;rw[hgg]at hb;injection hb with hb;injection hb with _ hb _;exact hne hb
end
theorem ownI_setL{w:World}{b g k:Nat}{v u:Value}{zs:List Int}(h:OwnI w b v zs)(hne:0<zs.length->v.ownBlock≠some g):OwnI (w.setCell ⟨g,k,none⟩ u) b v zs:=by
 by_cases h0:0<zs.length
 ·exact rowN_far h (hne h0)
 ·obtain rfl: zs = []:=List.eq_nil_of_length_eq_zero (by omega)
  refine⟨rfl,?_⟩
  rcases h.2 with q|⟨g',cap,cur,rfl,hg,hgg,hnc,hcm,hcs,ht⟩
  ·exact .inl q
  ·by_cases e: g' = g
   ·subst e
    exact .inr ⟨g',cap,cur.setIfInBounds k u,rfl,hg,heap_setCell_same w g' k _ _ _ hgg,hnc,hcm,by rw[Array.size_setIfInBounds];exact hcs,by simp⟩
   ·exact .inr ⟨g',cap,cur,rfl,hg,by rw[heap_setCell_other _ _ _ _ e];exact hgg,hnc,hcm,hcs,ht⟩
def flatN(f:Nat->List Value)(m:Nat):List Value:=(List.range m).flatMap f
section
variable {f: Nat -> List Value} {m s: Nat}
theorem flatN_succ(f:Nat->List Value)(m:Nat):flatN f (m+1)=flatN f m++f m:=by
 unfold flatN;rw[List.range_succ,List.flatMap_append];simp
theorem flatN_len(hf: ∀j,(f j).length=s): ∀m:Nat,(flatN f m).length=m * s
 |0=>by simp[flatN]
 |m+1=>by rw[flatN_succ,List.length_append,flatN_len hf m,hf,Nat.succ_mul]
theorem flatN_congr{f':Nat->List Value}: ∀{m:Nat},(∀j,j<m->f j=f' j)->flatN f m=flatN f' m
 |0,_=>rfl
 |m+1,h=>by rw[flatN_succ,flatN_succ,flatN_congr (m:=m) fun j hj=>h j (by omega),h m (by omega)]
theorem flatN_at(hf: ∀j,(f j).length=s){i:Nat}(hi:i<s): ∀{m j:Nat},j<m->(flatN f m)[s * j+i]? =(f j)[i]?
  | m + 1, j, hj => by
    have hl:=flatN_len hf m;rw[flatN_succ]
    by_cases h:j<m
    · have h1:s * j+i<m * s:=by
        have:s * (j+1)<=s * m:=Nat.mul_le_mul_left s h;rw[Nat.mul_succ]at this;rw[Nat.mul_comm m s];omega
      rw[List.getElem?_append_left (by omega)]
      exact flatN_at hf hi h
    · obtain rfl:j=m:=by omega
      rw[List.getElem?_append_right (by rw[hl,Nat.mul_comm];omega),hl,Nat.mul_comm j s,Nat.add_sub_cancel_left]
theorem flatN_set(hf: ∀j,(f j).length=s){i:Nat}(hi:i<s)(v:Value): ∀{m j:Nat},j<m->(flatN f m).set (s * j+i) v=flatN (updG f j ((f j).set i v)) m
  | m + 1, j, hj => by
    have hl:=flatN_len hf m;rw[flatN_succ,flatN_succ]
    by_cases h:j<m
    · have h1:s * j+i<m * s:=by
        have:s * (j+1)<=s * m:=Nat.mul_le_mul_left s h;rw[Nat.mul_succ]at this;rw[Nat.mul_comm m s];omega
      rw[List.set_append_left _ _ (by omega),flatN_set hf hi v h,updG_ne _ _ (by omega:m≠j)]
    · obtain rfl:j=m:=by omega
      rw[List.set_append_right _ _ (by rw[hl,Nat.mul_comm];omega),hl,Nat.mul_comm j s,Nat.add_sub_cancel_left,updG_at]
      congr 1
      exact flatN_congr fun q hq=>(updG_ne _ _ (by omega)).symm
end
structure GAd where
 gO:Nat
 cO:Nat
 vL:Value
 gD:Nat
 cD:Nat
 gT:Nat
 cT:Nat
 gF:Nat
 cF:Nat
 Rv:Nat->Value
def GAd.vO(a:GAd)(m:Nat):Value:=.slice (some ⟨a.gO,0,none⟩) m a.cO
def GAd.vD(a:GAd)(m:Nat):Value:=.slice (some ⟨a.gD,0,none⟩) m a.cD
def GAd.vT(a:GAd)(m:Nat):Value:=.slice (some ⟨a.gT,0,none⟩) m a.cT
def GAd.vF(a:GAd)(m:Nat):Value:=.slice (some ⟨a.gF,0,none⟩) m a.cF
def gangC(m:Nat)(a:GAd):List Value:=[a.vO m,a.vL,a.vD m,a.vT m,a.vF m]
def dqC(g:Gng)(a:GAd)(j:Nat):List Value:=[a.Rv j,.int .i64 (g.T j),.int .i64 (g.B j)]
def frL(m:Nat)(g:Gng):List Int:=(List.range m).map fun c=>(g.fr c:Int)
structure IsGng(w:World)(base m:Nat)(g:Gng)(L:List Int)(a:GAd):Prop where
 ol:g.O.length=m
 on:OwnI w base (a.vO m) g.O
 left:OwnI w base a.vL L
 dqs:w.ownsRow base 81 3 (a.vD m) m (flatN (dqC g a) m)
 tks:w.ownsRow base 65 6 (a.vT m) m (flatN (fun c=>cT (g.tk c)) m)
 frm:OwnI w base (a.vF m) (frL m g)
 ring: ∀j,j<m->OwnI w base (a.Rv j) (g.R j)
 oL:0<L.length->a.vL.ownBlock≠some a.gO
 oF:a.gF≠a.gO
 oR: ∀j,j<m->(a.Rv j).ownBlock≠some a.gO
 fL:a.vL.ownBlock≠some a.gF
 fR: ∀j,j<m->(a.Rv j).ownBlock≠some a.gF
section
variable {w w': World} {base m: Nat} {g: Gng} {L: List Int} {a: GAd}
theorem dqC_len(g:Gng)(a:GAd): ∀j,(dqC g a j).length=3:=fun _=>rfl
theorem tkC_len(g:Gng): ∀c,(cT (g.tk c)).length=6:=fun _=>rfl
theorem frL_len(m:Nat)(g:Gng):(frL m g).length=m:=by simp[frL]
theorem frL_at{c:Nat}(hc:c<m):(frL m g)[c]? =some (g.fr c:Int):=by
 unfold frL;rw[List.getElem?_map,List.getElem?_range hc];rfl
theorem IsGng.below(h:IsGng w base m g L a)(hb:Below w.heap.size w w'):IsGng w' base m g L a:=
 ⟨h.ol,h.on.below hb,h.left.below hb,own_below h.dqs hb,own_below h.tks hb,h.frm.below hb,fun j hj=>(h.ring j hj).below hb,h.oL,h.oF,h.oR,h.fL,h.fR⟩
theorem IsGng.down{base':Nat}(h:IsGng w base m g L a)(hb:base'<=base):IsGng w base' m g L a:=
 ⟨h.ol,h.on.down hb,h.left.down hb,own_less h.dqs hb,own_less h.tks hb,h.frm.down hb,fun j hj=>(h.ring j hj).down hb,h.oL,h.oF,h.oR,h.fL,h.fR⟩
theorem IsGng.dq(h:IsGng w base m g L a){j i:Nat}(hj:j<m){v:Value}(hi:(dqC g a j)[i]? =some v):w.cell? ⟨a.gD,3 * j+i,none⟩=some v:=
 rowN_cell h.dqs (by rw[flatN_at (dqC_len g a) (List.getElem?_eq_some_iff.1 hi).1 hj];exact hi)
theorem IsGng.tk(h:IsGng w base m g L a){c i:Nat}(hc:c<m){v:Value}(hi:(cT (g.tk c))[i]? =some v):w.cell? ⟨a.gT,6 * c+i,none⟩=some v:=
 rowN_cell h.tks (by rw[flatN_at (tkC_len g) (List.getElem?_eq_some_iff.1 hi).1 hc];exact hi)
theorem IsGng.fr(h:IsGng w base m g L a){c:Nat}(hc:c<m):w.cell? ⟨a.gF,c,none⟩=some (.int .i64 (g.fr c:Int)):=by
 have h1:=h.frm;unfold OwnI GAd.vF at h1;rw[frL_len]at h1;exact rowN_cell h1 (by rw[List.getElem?_map,frL_at hc];rfl)
theorem IsGng.onc(h:IsGng w base m g L a){c:Nat}(hc:c<m):w.cell? ⟨a.gO,c,none⟩=some (.int .i64 (g.O.getD c 0)):=by
 have h1:=h.on;unfold OwnI GAd.vO at h1;rw[h.ol]at h1;refine rowN_cell h1 ?_
 have hc':c<g.O.length:=by rw[h.ol];exact hc
 rw[List.getElem?_map,List.getElem?_eq_getElem hc',List.getD_eq_getElem?_getD,List.getElem?_eq_getElem hc'];rfl
theorem IsGng.onF(h:IsGng w base m g L a):w.ownsRow base 3 1 (a.vO m) m (g.O.map (.int .i64))/\w.ownsRow base 3 1 (a.vF m) m ((frL m g).map (.int .i64)):=by
 have h1:=h.on;have h2:=h.frm;unfold OwnI at h1 h2;rw[h.ol]at h1;rw[frL_len]at h2;exact⟨h1,h2⟩
theorem IsGng.frozen(h:IsGng w base m g L a)(k:Nat):w.frozen? ⟨a.gD,k,none⟩=false/\w.frozen? ⟨a.gT,k,none⟩=false/\w.frozen? ⟨a.gF,k,none⟩=false/\w.frozen? ⟨a.gO,k,none⟩=false:=
 ⟨rowN_frozen h.dqs k,rowN_frozen h.tks k,rowN_frozen h.onF.2 k,rowN_frozen h.onF.1 k⟩
theorem IsGng.lts(h:IsGng w base m g L a):(base<=a.gO/\a.gO<w.heap.size)/\(base<=a.gD/\a.gD<w.heap.size)/\(base<=a.gT/\a.gT<w.heap.size)/\(base<=a.gF/\a.gF<w.heap.size):=
 ⟨rowN_lt h.onF.1,rowN_lt h.dqs,rowN_lt h.tks,rowN_lt h.onF.2⟩
theorem IsGng.far(h:IsGng w base m g L a){b:Nat}{t:TypeId}{cs:Array Value}{fr:Nat×Nat}(hb:w.heap[b]? =some (.cells cs t fr))(h1:3≠t)(h2:81≠t)(h3:65≠t)(k:Nat)(v:Value):
  IsGng (w.setCell ⟨b,k,none⟩ v) base m g L a:=
 ⟨h.ol,rowN_far h.on (rowN_types h.on hb h1),rowN_far h.left (rowN_types h.left hb h1),rowN_far h.dqs (rowN_types h.dqs hb h2),rowN_far h.tks (rowN_types h.tks hb h3),rowN_far h.frm (rowN_types h.frm hb h1),
  fun j hj=>rowN_far (h.ring j hj) (rowN_types (h.ring j hj) hb h1),h.oL,h.oF,h.oR,h.fL,h.fR⟩
theorem IsGng.putD(h:IsGng w base m g L a){j:Nat}(hj:j<m){R':List Int}(T' B':Int){v:Value}(hv:OwnI w base v R')(h1:v.ownBlock≠some a.gO)(h2:v.ownBlock≠some a.gF):
  IsGng (((w.setCell ⟨a.gD,3 * j,none⟩ v).setCell ⟨a.gD,3 * j+1,none⟩ (.int .i64 T')).setCell ⟨a.gD,3 * j+2,none⟩ (.int .i64 B')) base m {g with R:=updG g.R j R',T:=updG g.T j T',B:=updG g.B j B'} L {a with Rv:=updG a.Rv j v}:=by
 obtain⟨cur,hb,_⟩:=rowN_block h.dqs;have r1:=rowN_set h.dqs (3 * j) v;have r2:=rowN_set r1 (3 * j+1) (.int .i64 T');have r3:=rowN_set r2 (3 * j+2) (.int .i64 B');obtain⟨c1,b1,_⟩:=rowN_block r1;obtain⟨c2,b2,_⟩:=rowN_block r2;have far: ∀{e:TypeId} {s n:Nat} {u:Value} {ys:List Value},e≠81->w.ownsRow base e s u n ys->(((w.setCell ⟨a.gD,3 * j,none⟩ v).setCell ⟨a.gD,3 * j+1,none⟩ (.int .i64 T')).setCell ⟨a.gD,3 * j+2,none⟩ (.int .i64 B')).ownsRow base e s u n ys:=fun he hy=>by
  have y1:=rowN_far (k:=3 * j) (u:=v) hy (rowN_types hy hb he);have y2:=rowN_far (k:=3 * j+1) (u:=.int .i64 T') y1 (rowN_types y1 b1 he);exact rowN_far y2 (rowN_types y2 b2 he)
 refine⟨h.ol,far (by decide) h.on,far (by decide) h.left,?_,far (by decide) h.tks,far (by decide) h.frm,fun i hi=> ?_,h.oL,h.oF,fun i hi=> ?_,h.fL,fun i hi=> ?_⟩
 ·have e0:=flatN_set (f:=dqC g a) (s:=3) (dqC_len g a) (i:=0) (by decide) v hj
  rw[Nat.add_zero]at e0;rw[e0]at r3;have hlen: ∀(f:Nat->List Value) (u:List Value),(∀i,(f i).length=3)->u.length=3-> ∀i,(updG f j u i).length=3:=fun f u hf hu i=>by
   by_cases e:i=j
   ·rw[e,updG_at];exact hu
   ·rw[updG_ne _ _ e];exact hf i
  have l1:=hlen (dqC g a) ((dqC g a j).set 0 v) (dqC_len g a) rfl;rw[flatN_set l1 (i:=1) (by decide) _ hj,updG_at]at r3
  have l2:=hlen (updG (dqC g a) j ((dqC g a j).set 0 v)) (((dqC g a j).set 0 v).set 1 (.int .i64 T')) l1 rfl;rw[flatN_set l2 (i:=2) (by decide) _ hj,updG_at]at r3
  have e3:flatN (updG (updG (updG (dqC g a) j ((dqC g a j).set 0 v)) j (((dqC g a j).set 0 v).set 1 (.int .i64 T'))) j ((((dqC g a j).set 0 v).set 1 (.int .i64 T')).set 2 (.int .i64 B'))) m=flatN (dqC {g with R:=updG g.R j R',T:=updG g.T j T',B:=updG g.B j B'} {a with Rv:=updG a.Rv j v}) m:=flatN_congr fun i hi=>by
   unfold dqC
   by_cases e:i=j
   ·subst e;simp only[updG_at];rfl
   ·simp only[updG_ne _ _ e]
  rw[e3]at r3;exact r3
 ·show OwnI _ base (updG a.Rv j v i) (updG g.R j R' i)
  by_cases e:i=j
  ·rw[e,updG_at,updG_at];exact far (by decide) hv
  ·rw[updG_ne _ _ e,updG_ne _ _ e];exact far (by decide) (h.ring i hi)
 ·show (updG a.Rv j v i).ownBlock ≠ _
  by_cases e:i=j
  ·rw[e,updG_at];exact h1
  ·rw[updG_ne _ _ e];exact h.oR i hi
 ·show (updG a.Rv j v i).ownBlock ≠ _
  by_cases e:i=j
  ·rw[e,updG_at];exact h2
  ·rw[updG_ne _ _ e];exact h.fR i hi
theorem flatN_put{f:Nat->List Value}{m s:Nat}(hf: ∀j,(f j).length=s){c:Nat}(hc:c<m){u:List Value}(hu:u.length=s){i:Nat}(hi:i<s)(v:Value):
  (flatN (updG f c u) m).set (s * c+i) v=flatN (updG f c (u.set i v)) m:=by
 have hl: ∀j,(updG f c u j).length=s:=fun j=>by
  by_cases e:j=c
  ·rw[e,updG_at];exact hu
  ·rw[updG_ne _ _ e];exact hf j
 rw[flatN_set hl hi v hc,updG_at];refine flatN_congr fun j _=> ?_
 by_cases e:j=c
 ·rw[e,updG_at,updG_at]
 ·rw[updG_ne _ _ e,updG_ne _ _ e,updG_ne _ _ e]
theorem IsGng.putT(h:IsGng w base m g L a){c:Nat}(hc:c<m)(t:Tkr):
  IsGng ((((((w.setCell ⟨a.gT,6 * c,none⟩ (.bool t.steal)).setCell ⟨a.gT,6 * c+1,none⟩ (.int .i64 t.at_)).setCell ⟨a.gT,6 * c+2,none⟩ (.int .i64 t.top)).setCell ⟨a.gT,6 * c+3,none⟩ (.int .i64 t.bot)).setCell ⟨a.gT,6 * c+4,none⟩ (.int .i64 t.got)).setCell ⟨a.gT,6 * c+5,none⟩ (.int .i64 t.end_)) base m {g with tk:=updG g.tk c t} L a:=by
 have r1:=rowN_set h.tks (6 * c) (.bool t.steal);have r2:=rowN_set r1 (6 * c+1) (.int .i64 t.at_);have r3:=rowN_set r2 (6 * c+2) (.int .i64 t.top);have r4:=rowN_set r3 (6 * c+3) (.int .i64 t.bot);have r5:=rowN_set r4 (6 * c+4) (.int .i64 t.got);have r6:=rowN_set r5 (6 * c+5) (.int .i64 t.end_);obtain⟨c0,b0,_⟩:=rowN_block h.tks;obtain⟨c1,b1,_⟩:=rowN_block r1;obtain⟨c2,b2,_⟩:=rowN_block r2;obtain⟨c3,b3,_⟩:=rowN_block r3;obtain⟨c4,b4,_⟩:=rowN_block r4;obtain⟨c5,b5,_⟩:=rowN_block r5;have far: ∀{e:TypeId} {s n:Nat} {u:Value} {ys:List Value},e≠65->w.ownsRow base e s u n ys->((((((w.setCell ⟨a.gT,6 * c,none⟩ (.bool t.steal)).setCell ⟨a.gT,6 * c+1,none⟩ (.int .i64 t.at_)).setCell ⟨a.gT,6 * c+2,none⟩ (.int .i64 t.top)).setCell ⟨a.gT,6 * c+3,none⟩ (.int .i64 t.bot)).setCell ⟨a.gT,6 * c+4,none⟩ (.int .i64 t.got)).setCell ⟨a.gT,6 * c+5,none⟩ (.int .i64 t.end_)).ownsRow base e s u n ys:=fun he hy=>by
  have y1:=rowN_far (k:=6 * c) (u:=.bool t.steal) hy (rowN_types hy b0 he);have y2:=rowN_far (k:=6 * c+1) (u:=.int .i64 t.at_) y1 (rowN_types y1 b1 he);have y3:=rowN_far (k:=6 * c+2) (u:=.int .i64 t.top) y2 (rowN_types y2 b2 he);have y4:=rowN_far (k:=6 * c+3) (u:=.int .i64 t.bot) y3 (rowN_types y3 b3 he);have y5:=rowN_far (k:=6 * c+4) (u:=.int .i64 t.got) y4 (rowN_types y4 b4 he);have y6:=rowN_far (k:=6 * c+5) (u:=.int .i64 t.end_) y5 (rowN_types y5 b5 he);exact y6
 refine⟨h.ol,far (by decide) h.on,far (by decide) h.left,far (by decide) h.dqs,?_,far (by decide) h.frm,fun i hi=>far (by decide) (h.ring i hi),h.oL,h.oF,h.oR,h.fL,h.fR⟩
 have hf:=tkC_len g;have e0:=flatN_set (f:=fun c=>cT (g.tk c)) hf (i:=0) (by decide) (.bool t.steal) hc
 rw[Nat.add_zero]at e0;rw[e0,flatN_put hf hc rfl (by decide),flatN_put hf hc rfl (by decide),flatN_put hf hc rfl (by decide),flatN_put hf hc rfl (by decide),flatN_put hf hc rfl (by decide)]at r6
 have e6:flatN (updG (fun c=>cT (g.tk c)) c (((((((cT (g.tk c)).set 0 (.bool t.steal)).set 1 (.int .i64 t.at_)).set 2 (.int .i64 t.top)).set 3 (.int .i64 t.bot)).set 4 (.int .i64 t.got)).set 5 (.int .i64 t.end_))) m=flatN (fun k=>cT (updG g.tk c t k)) m:=flatN_congr fun i hi=>by
  by_cases e:i=c
  ·rw[e,updG_at,updG_at];rfl
  ·rw[updG_ne _ _ e,updG_ne _ _ e]
 rw[e6]at r6;exact r6
theorem IsGng.putF(h:IsGng w base m g L a){c:Nat}(hc:c<m)(x:Nat):IsGng (w.setCell ⟨a.gF,c,none⟩ (.int .i64 (x:Int))) base m {g with fr:=updG g.fr c x} L a:=by
 obtain⟨c0,b0,_⟩:=rowN_block h.onF.2;have e:(frL m g).set c (x:Int)=frL m {g with fr:=updG g.fr c x}:=by
  apply List.ext_getElem?
  intro i
  by_cases him:i<m
  ·rw [frL_at him]
   by_cases e:i=c
   ·subst e
    rw[List.getElem?_set_self (by rw[frL_len];exact him)]
    show some (x:Int)=some ((updG g.fr i x i:Nat):Int)
    rw[updG_at]
   ·rw [List.getElem?_set_ne (fun q => e q.symm),frL_at him]
    show some ((g.fr i:Nat):Int)=some ((updG g.fr c x i:Nat):Int)
    rw[updG_ne _ _ e]
  ·rw[List.getElem?_eq_none (by rw[List.length_set,frL_len];omega),List.getElem?_eq_none (by rw[frL_len];omega)]
 refine⟨h.ol,rowN_far h.on ?_,rowN_far h.left h.fL,rowN_far h.dqs (rowN_types h.dqs b0 (by decide)),rowN_far h.tks (rowN_types h.tks b0 (by decide)),?_,fun j hj=>rowN_far (h.ring j hj) (h.fR j hj),h.oL,h.oF,h.oR,h.fL,h.fR⟩
 ·intro q
  have q:a.gO=a.gF:=by simpa[GAd.vO,Value.ownBlock]using q
  exact h.oF q.symm
 ·rw [<- e]
  have hfr:=h.frm;exact ownI_setC hfr (by rw[frL_len];exact hc) _
theorem IsGng.putO(h:IsGng w base m g L a){c:Nat}(hc:c<m)(x:Int):IsGng (w.setCell ⟨a.gO,c,none⟩ (.int .i64 x)) base m {g with O:=g.O.set c x} L a:=by
 obtain⟨c0,b0,_⟩:=rowN_block h.onF.1;refine⟨by show(g.O.set c x).length=m;rw[List.length_set];exact h.ol,ownI_setC h.on (by rw[h.ol];exact hc) _,ownI_setL h.left h.oL,rowN_far h.dqs (rowN_types h.dqs b0 (by decide)),rowN_far h.tks (rowN_types h.tks b0 (by decide)),rowN_far h.frm ?_,fun j hj=>rowN_far (h.ring j hj) (h.oR j hj),h.oL,h.oF,h.oR,h.fL,h.fR⟩
 intro q;have q:a.gF=a.gO:=by simpa[GAd.vF,Value.ownBlock]using q
 exact h.oF q
end
end Go.Proofs.YtngdbbligebcbabGreatDoor
namespace Go.Proofs.YtngdbbligebcbabGreatDoor
open Go.RowKit
end Go.Proofs.YtngdbbligebcbabGreatDoor
namespace Go.Proofs.YtngdbbligebcbabGreatDoor
open Go Go.RowKit
def plN(n:Nat)(k:Int):Nat:=(if k<0 then 0 else k).toNat%n
theorem placeD_eq(R:List Int)(k:Int):placeD R k=R.getD (plN R.length k) 0:=rfl
section
variable {A: Option Addr} {n c: Nat} {R: List Int} {A': Option Addr} {n' c': Nat} {R': List Int}
def SameQ(R:List Int)(T B:Int)(R':List Int)(T' B':Int):Prop:=R=R'/\T=T'/\B=B'
instance (R:List Int) (T B:Int) (R':List Int) (T' B':Int):Decidable (SameQ R T B R' T' B'):=by unfold SameQ;infer_instance
theorem below2{w:World}(o1 o2:Obj)(N:Nat):Below w.heap.size w (((w.alloc o1).alloc o2).drewN N):=below_drewN ((below_alloc o1).trans ((below_alloc (w:=w.alloc o1) o2).mono (by simp))) N
end
end Go.Proofs.YtngdbbligebcbabGreatDoor
namespace Go.Proofs.YtngdbbligebcbabGreatDoor
def chk(n:Int):Int:=if n<0 then 10 else if 1099511627775<n then 11 else 0
theorem chk_low{n:Int}(h:n<0):chk n=10:=by unfold chk;rw[if_pos h]
theorem chk_high{n:Int}(h:1099511627775<n):chk n=11:=by unfold chk;rw[if_neg (by omega),if_pos h]
theorem chk_ok{n:Int}(h0:0<=n)(h1:n<=1099511627775):chk n=0:=by unfold chk;rw[if_neg (by omega),if_neg (by omega)]
theorem chk_zero{n:Int}(h:chk n=0):0<=n/\n<=1099511627775:=by
 by_cases h1:n<0
 ·rw[chk_low h1]at h;omega
 ·by_cases h2: 1099511627775 < n
  ·rw[chk_high h2]at h;omega
  ·omega
end Go.Proofs.YtngdbbligebcbabGreatDoor
namespace Go.Proofs.YtngdbbligebcbabGreatDoor
open Go.RowKit
theorem check_any(n:Int)(w:World):Calls Tryz.prog 138 #[.int .i64 n] w fun e w'=>e= .returned (.int .i64 (chk n))/\w=w':=by
 by_cases h1:n<0
 ·rw [chk_low h1]
  go_enter Tryz.func138,Tryz.ntmps138;go_wp2;go_ret;exact⟨rfl,rfl⟩
 ·by_cases h2: 1099511627775 < n
  ·rw [chk_high h2]
   go_enter Tryz.func138,Tryz.ntmps138;go_wp2;go_ret;exact⟨rfl,rfl⟩
  ·rw [chk_ok (by omega) (by omega)]
   go_enter Tryz.func138,Tryz.ntmps138;go_wp2;go_ret;exact⟨rfl,rfl⟩
end Go.Proofs.YtngdbbligebcbabGreatDoor
