import Derived.Test.YtlfekmbalgkmeaaGreatDoorZM6
import Derived.Test.YtlfekmbalgkmeaaGreatDoorZShelf
import Derived.Deep.QuietTactic
import Derived.Test.YtlfekmbalgkmeaaGreatDoorZM2
import Derived.Deep.AppendLies
import Derived.Orders
import Derived.WalkKit
import Derived.KernelRfl
set_option linter.unusedSimpArgs false
set_option linter.unnecessarySimpa false
set_option linter.unusedVariables false
set_option maxRecDepth 100000
set_option maxHeartbeats 8000000
namespace Go.Proofs.YtlfekmbalgkmeaaGreatDoor
open Go Go.RowKit
section
variable {n: Nat} (t: Nat -> Int)
def encF(x:Fin n):Value:=.int .i64 (x.val:Int)
def cmpF(x y:Fin n):Int:=if t y.val<t x.val then -1 else if t x.val<t y.val then 1 else 0
def valsF(d:Array (Fin n)):List Nat:=d.toList.map Fin.val
variable {t}
theorem ltOf_cmpF(x y:Fin n):ltOf (cmpF t) x y=decide (t y.val<t x.val):=by
 unfold ltOf cmpF
 by_cases h:t y.val<t x.val
 ·rw[if_pos h,decide_eq_true h];rfl
 ·rw [if_neg h,decide_eq_false h]
  split<;>rfl
theorem valsF_len(d:Array (Fin n)):(valsF d).length=d.size:=by simp[valsF]
theorem valsF_at [Inhabited (Fin n)]{d:Array (Fin n)}{i:Nat}(h:i<d.size):(valsF d)[i]? =some d[i]!.val:=by
 unfold valsF;rw[List.getElem?_map,Array.getElem?_toList,Array.getElem?_eq_getElem h,getElem!_pos d i h];rfl
theorem valsF_swp [Inhabited (Fin n)](d:Array (Fin n))(i j:Nat):valsF (Sort.swp d i j)=((valsF d).set i d[j]!.val).set j d[i]!.val:=by
 unfold valsF Sort.swp;simp[Array.toList_setIfInBounds,List.map_set]
theorem inner_ord [Inhabited (Fin n)]{k:Nat}{tl:List Nat}: ∀(j:Nat) (d:Array (Fin n)),j<=k->valsF d=(ordO t k).take j++k::(ordO t k).drop j++tl->(∀y∈(ordO t k).drop j,t y<t k)->valsF (Sort.insInner (ltOf (cmpF t)) 0 j d)=ordO t (k+1)++tl
  | 0, d, _, hd, hl => by
    unfold Sort.insInner;rw[hd,ordO_at (j:=0) (Nat.zero_le _) (fun h=>absurd h (by decide)) hl]
  | j + 1, d, hj, hd, hl => by
    have hP:=ordO_len (t:=t) k;have hjl:j<(ordO t k).length:=by omega
    have hlen:=congrArg List.length hd;rw[valsF_len]at hlen;simp at hlen;have e1:d[j+1]!.val=k:=by
      have h1:=valsF_at (d:=d) (i:=j+1) (by omega)
      rw[hd,List.append_assoc,List.getElem?_append_right (by simp;omega)]at h1
      have:j+1 - ((ordO t k).take (j+1)).length=0:=by simp;omega
      rw[this]at h1
      simpa using h1.symm
    have e2:(ordO t k)[j]? =some d[j]!.val:=by
      have h1:=valsF_at (d:=d) (i:=j) (by omega)
      rw[hd,List.append_assoc,List.getElem?_append_left (by simp;omega),List.getElem?_take,if_pos (by omega)]at h1
      exact h1
    unfold Sort.insInner;rw[ltOf_cmpF,e1]
    by_cases hlt:t d[j]!.val<t k
    · rw[decide_eq_true hlt];simp only[Nat.zero_lt_succ,gt_iff_lt,decide_true,Bool.and_self,if_true];refine inner_ord j (Sort.swp d (j+1) j) (by omega) ?_ (fun y hy=> ?_)
      · rw[valsF_swp,hd,e1];have h3:=swap_at (P:=ordO t k) (x:=k) (j:=j+1) (y:=d[j]!.val) (by omega) (by simpa using e2)
        rw[Nat.add_sub_cancel]at h3;rw[<-h3];rw[List.set_append_left _ _ (by simp;omega),List.set_append_left _ _ (by simp;omega)]
      · rw[List.drop_eq_getElem_cons hjl]at hy;rcases List.mem_cons.mp hy with rfl|hy
        · have:(ordO t k)[j]=d[j]!.val:=by rw[List.getElem?_eq_getElem hjl]at e2;exact Option.some.inj e2
          rw[this];exact hlt
        · exact hl y hy
    · rw[decide_eq_false hlt];simp only[Bool.and_false,if_false,Bool.false_eq_true];rw[hd,ordO_at (j:=j+1) hj (fun _ y hy=>by
        rw[Nat.add_sub_cancel]at hy;rw[e2]at hy;rw[<-Option.some.inj hy];exact hlt) hl]
theorem outer_ord [Inhabited (Fin n)]: ∀(r i:Nat) (d:Array (Fin n)),n - i=r->i<=n->valsF d=ordO t i++(List.range n).drop i->valsF (Sort.insOuter (ltOf (cmpF t)) 0 n i d)=ordO t n
  | 0, i, d, hr, hi, hd => by
    obtain rfl:i=n:=by omega
    unfold Sort.insOuter;rw[if_neg (Nat.lt_irrefl _),hd,List.drop_of_length_le (by simp),List.append_nil]
  | r + 1, i, d, hr, hi, hd => by
    unfold Sort.insOuter;rw[if_pos (by omega)]
    refine outer_ord r (i+1) _ (by omega) (by omega) ?_
    have hP:=ordO_len (t:=t) i;refine inner_ord i d (Nat.le_refl _) ?_ (fun y hy=>by rw[List.drop_of_length_le (by omega)]at hy;cases hy)
    rw[hd,List.take_of_length_le (by omega),List.drop_of_length_le (i:=i) (l:=ordO t i) (by omega),List.append_assoc,List.drop_eq_getElem_cons (i:=i) (by simp;omega),List.getElem_range]
    rfl
def idF(n:Nat):Array (Fin n):=(List.finRange n).toArray
theorem valsF_id:valsF (idF n)=List.range n:=by
 unfold valsF idF;apply List.ext_getElem?
 intro i
 by_cases h:i<n
 ·simp[h]
 ·simp[h]
theorem idF_size:(idF n).size=n:=by simp[idF]
theorem sort_ord [Inhabited (Fin n)](hn:1<=n):valsF (Sort.insertionSort (ltOf (cmpF t)) (idF n) 0 n)=ordO t n:=by
 unfold Sort.insertionSort;refine outer_ord (n - 1) 1 (idF n) rfl hn ?_
 rw[valsF_id];obtain⟨m,rfl⟩: ∃m,n=m+1:=⟨n - 1,by omega⟩
 rw[List.range_succ_eq_map];rfl
theorem sort_still [Inhabited (Fin n)](d:Array (Fin n)):Sort.insertionSort (ltOf (cmpF t)) d n n=d:=by
 unfold Sort.insertionSort Sort.insOuter;rw[if_neg (by omega)]
end
theorem own_cell16{w:World}{base g n c:Nat}{zs:List Int}(h:OwnI w base (.slice (some ⟨g,0,none⟩) n c) zs){j:Nat}{z:Int}(hj:zs[j]? =some z):w.cell? ⟨g,j,none⟩=some (.int .i64 z):=by
 obtain⟨b,off,z',e,_,hx,hc⟩:=h.ints.at_ (k:=j) (List.getElem?_eq_some_iff.1 hj).1
 injection e with e;injection e with e1 e2;subst e1 e2;rw[hx]at hj;rw[<-Option.some.inj hj]
 simpa using hc
def totE(es:List Shp)(k:Nat):Int:=match es[k]? with|some s=>s.t|none=>0
theorem totE_at{es:List Shp}{k:Nat}{t l m d p:Int}(h:es[k]? =some ⟨t,l,m,d,p⟩):totE es k=t:=by unfold totE;rw[h]
section
variable {A: Option Addr} {n c: Nat} {es: List Shp}
theorem byTot_any(p i j B:Nat)(w:World)(hn:es.length=n)(hl:n<=1000)(hi:i<n)(hj:j<n)(hS:Shps w B A es)(hc:w.cell? ⟨p,0,none⟩=some (.slice A n c)):
  Calls Tryz.prog 176 #[.int .i64 i,.int .i64 j,.pointer (some ⟨p,0,none⟩)] w fun e w'=>e= .returned (.int .i64 (cmpI (totE es j) (totE es i)))/\ ∃q,w'=w.drewN q:=by
 obtain⟨b1,o1,t1,l1,m1,d1,p1,rfl,_,h1,x1,x2,x3,x4,x5⟩:=hS.at_ (k:=i) (by omega)
 obtain⟨b2,o2,t2,l2,m2,d2,p2,e,_,h2,y1,y2,y3,y4,y5⟩:=hS.at_ (k:=j) (by omega)
 injection e with e;injection e with e1 e2;subst e1 e2;rw[totE_at h1,totE_at h2];have C:=Lib.hid (compare_any t2 t1);generalize cmpI t2 t1=r at C⊢;clear hS h1 h2 x2 x3 x4 x5 y2 y3 y4 y5;go_enter Tryz.func176,Tryz.ntmps176;go_wp2
 go_quiet (first
  |(go_at_call 173;exact Calls.quiet_of_same (C.out _)))
 go_wp2;go_ret
 exact⟨rfl,_,rfl⟩
theorem cmpF_is(t:Nat->Int)(x y:Fin n):cmpF t x y=cmpI (t y.val) (t x.val):=rfl
theorem nums_vals(d:Array (Fin n)):d.toList.map (fun x=>(x.val:Int))=nums (valsF d):=by unfold nums valsF;rw[List.map_map];rfl
theorem insSort_any [Inhabited (Fin n)]{t:Nat->Int}{B g cap a b fn:Nat}{cb:Array Value}{w0 w:World}{d:Array (Fin n)}(eg: ∀args w,(callFunc fn args).run Tryz.prog w= .ok (.enter fn args) w)(hs:d.size=n)(hl:n<=1000)
  (hO:OwnI w0 B (.slice (some ⟨g,0,none⟩) n cap) (nums (List.range n))) (hB:B<=w0.heap.size) (hp: ∀W,Below g w0 W-> ∀x y:Fin n,Calls Tryz.prog fn (#[.int .i64 (x.val:Int),.int .i64 (y.val:Int)]++cb) W fun e w'=>e= .returned (.int .i64 (cmpF t x y))/\ ∃q,w'=W.drewN q)
  (hS:SW encF w0 g 0 d w) (hab:a<=b) (hb:b<=n):
  Calls Tryz.prog 183 #[.slice (some ⟨g,0,none⟩) n cap,.int .i64 a,.int .i64 b,.func (.func fn) #[] cb] w fun e w'=>e= .returned (.tuple #[])/\SW encF w0 g 0 (Sort.insertionSort (ltOf (cmpF t)) d a b) w':=by
 obtain⟨cur,hgg,hgB,hnc,hcs⟩:=hO.blockC;have hglt:=(Array.getElem?_eq_some_iff.1 hgg).1
 have hH:Sort.Holds encF w0 g 0 (idF n):=fun j hj=>by
  rw[idF_size]at hj;refine⟨?_,hO.frozenC _⟩
  have h1:(nums (List.range n))[j]? =some (j:Int):=by simp[nums,hj]
  have h2:=own_cell16 hO h1;rw[Nat.zero_add,h2];have h3:=valsF_at (d:=idF n) (i:=j) (by rw[idF_size];exact hj)
  rw[valsF_id,List.getElem?_range hj]at h3
  unfold encF;rw[<-Option.some.inj h3]
 have h:=Tryz.insertionSortCmpFunc_s encF (cmpF t) fn cb g 0 cap a b (idF n) d w0 w eg (fun m os dk hk x y=>(hp _ (below_sortWorld encF w0 g m dk os (Nat.le_refl _) (Nat.le_of_lt hglt)) x y).mono fun e w' ⟨he,q,hq⟩=>⟨he,q,#[],by rw[Sort.grow_empty];exact hq⟩)
  ⟨fun x=>rfl,hH,hglt⟩ (by rw[idF_size,hs]) hS hab (by omega) (by omega)
 rw[hs]at h;exact h
theorem sw_srt [Inhabited (Fin n)]{B g cap:Nat}{w0 w:World}{d:Array (Fin n)}(hS:SW encF w0 g 0 d w)(hd:d.size=n)(hO:OwnI w0 B (.slice (some ⟨g,0,none⟩) n cap) (nums (List.range n)))(hg:g<=w0.heap.size):OwnI w B (.slice (some ⟨g,0,none⟩) n cap) (nums (valsF d))/\Below g w0 w:=by
 obtain⟨m,os,rfl⟩:=hS;refine⟨?_,below_sortWorld encF w0 g m d os (Nat.le_refl _) hg⟩
 rw[<-nums_vals];exact own_sortWorld (f:=fun x:Fin n=>(x.val:Int)) (fun _=>rfl) m d os (by simp[nums]) hd hO
theorem insSort_none(fn:Fn)(cb:Array Value)(g cap:Nat)(w:World):
  Calls Tryz.prog 183 #[.slice (some ⟨g,0,none⟩) 0 cap,.int .i64 0,.int .i64 0,.func fn #[] cb] w fun e w'=>e= .returned (.tuple #[])/\w'=w:=by
 go_enter Tryz.func183,Tryz.ntmps183;go_wp2;go_loopw [8] (fun v wr=>v= .int .i64 1/\wr=w) (fun v _=>0)
 case atStart=>exact⟨rfl,rfl⟩
 case round=>
  obtain⟨rfl,rfl⟩:=hrel;go_wp2;go_end0;exact⟨rfl,rfl⟩
end
section
variable {A: Option Addr} {n c: Nat} {es: List Shp}
theorem stable_any{t:Nat->Int}{B g cap fn:Nat}{cb:Array Value}{w0:World}(eg: ∀args w,(callFunc fn args).run Tryz.prog w= .ok (.enter fn args) w)(hl:n<=20)
  (hO:OwnI w0 B (.slice (some ⟨g,0,none⟩) n cap) (nums (List.range n))) (hB:B<=w0.heap.size) (hp: ∀W,Below g w0 W-> ∀x y:Fin n,Calls Tryz.prog fn (#[.int .i64 (x.val:Int),.int .i64 (y.val:Int)]++cb) W fun e w'=>e= .returned (.int .i64 (cmpF t x y))/\ ∃q,w'=W.drewN q):
  Calls Tryz.prog 182 #[.slice (some ⟨g,0,none⟩) n cap,.int .i64 n,.func (.func fn) #[] cb] w0 fun e w'=>e= .returned (.tuple #[])/\OwnI w' B (.slice (some ⟨g,0,none⟩) n cap) (nums (ordO t n))/\Below g w0 w':=by
 obtain⟨cur,hgg,hgB,hnc,hcs⟩:=hO.blockC;have hglt:=Nat.le_of_lt (Array.getElem?_eq_some_iff.1 hgg).1
 rcases Nat.eq_zero_or_pos n with h0|h0
 ·subst h0
  have HO:=Lib.hid hO;have C:=Lib.hid (insSort_none (.func fn) cb g cap w0);clear hO hB hp hgg hgB hnc hcs hglt;go_enter Tryz.func182,Tryz.ntmps182;go_wp2;go_loopw [7,8] (fun v u wr=>v= .int .i64 0/\u= .int .i64 20/\wr=w0) (fun _ _ _=>0)
  case atStart=>exact⟨rfl,rfl,rfl⟩
  case round=>
   obtain⟨rfl,rfl,rfl⟩:=hrel;go_wp2_with fail;refine C.out.mono ?_
   rintro e w' ⟨rfl,rfl⟩;go_wp2;go_loopw [6] (fun v wr2=>v= .int .i64 20/\wr2=w') (fun _ _=>0)
   case atStart=>exact⟨rfl,rfl⟩
   case round=>
    obtain⟨rfl,rfl⟩:=hrel;go_wp2;go_end0;exact⟨rfl,HO.out,Below.refl _ _⟩
 ·haveI: Inhabited (Fin n):=⟨⟨0,h0⟩⟩
  have S0:SW encF w0 g 0 (idF n) w0:=SW.start (fun j hj=>by
   rw[idF_size]at hj;refine⟨?_,hO.frozenC _⟩
   have h1:(nums (List.range n))[j]? =some (j:Int):=by simp[nums,hj]
   have h2:=own_cell16 hO h1;rw[Nat.zero_add,h2];have h3:=valsF_at (d:=idF n) (i:=j) (by rw[idF_size];exact hj)
   rw[valsF_id,List.getElem?_range hj]at h3
   unfold encF;rw[<-Option.some.inj h3])
  have hsz:(Sort.insertionSort (ltOf (cmpF t)) (idF n) 0 n).size=n:=by rw[<-valsF_len,sort_ord h0,ordO_len]
  have C1:=Lib.hid (insSort_any eg idF_size (by omega) hO hB hp S0 (Nat.zero_le n) (Nat.le_refl n))
  have C2:=Lib.hid (fun W hW=>insSort_any (d:=Sort.insertionSort (ltOf (cmpF t)) (idF n) 0 n) (w:=W) eg hsz (by omega) hO hB hp hW (Nat.le_refl n) (Nat.le_refl n))
  have HE:=Lib.hid (fun W (hW:SW encF w0 g 0 (Sort.insertionSort (ltOf (cmpF t)) (idF n) 0 n) W)=>sw_srt hW hsz hO hglt)
  rw[sort_ord h0]at HE;rw[sort_still]at C2;clear hO hB hp hgg hgB hnc hcs S0 hsz
  by_cases h20:n=20
  ·have hz: (n: Int) = 20:=by omega
   rw[hz]at C1 C2;rw[hz];clear hz h20;go_enter Tryz.func182,Tryz.ntmps182;go_wp2;go_loopw [7,8] (fun v u wr=>(v= .int .i64 0/\u= .int .i64 20/\wr=w0)\/(v= .int .i64 20/\u= .int .i64 40/\Hid (SW encF w0 g 0 (Sort.insertionSort (ltOf (cmpF t)) (idF n) 0 n) wr))) (fun _ u _=>60 - (intOf u).toNat)
   case atStart=>exact .inl ⟨rfl,rfl,rfl⟩
   case round=>
    rcases hrel with⟨rfl,rfl,rfl⟩|⟨rfl,rfl,HS⟩
    ·go_wp2_with fail
     refine C1.out.mono ?_
     rintro e w1 ⟨rfl,hS1⟩;have HS1:=Lib.hid hS1;clear hS1;go_wp2;go_roundw
     case rel=>exact .inr ⟨rfl,rfl,HS1⟩
     case measure=>simp[intOf]
    ·go_wp2_with fail
     refine(C2.out _ HS.out).mono ?_
     rintro e w1 ⟨rfl,hS1⟩;have HS1:=Lib.hid hS1;clear hS1;go_wp2;go_loopw [6] (fun v wr2=>v= .int .i64 20/\wr2=w1) (fun _ _=>0)
     case atStart=>exact⟨rfl,rfl⟩
     case round=>
      obtain⟨rfl,rfl⟩:=hrel;go_wp2;go_end0;exact⟨rfl,HE.out _ HS1.out⟩
  ·have hlt: n < 20:=by omega
   go_enter Tryz.func182,Tryz.ntmps182;go_wp2;go_loopw [7,8] (fun v u wr=>v= .int .i64 0/\u= .int .i64 20/\wr=w0) (fun _ _ _=>0)
   case atStart=>exact⟨rfl,rfl,rfl⟩
   case round=>
    obtain⟨rfl,rfl,rfl⟩:=hrel;go_wp2_with fail;refine C1.out.mono ?_
    rintro e w1 ⟨rfl,hS1⟩;have HS1:=Lib.hid hS1;clear hS1;go_wp2;go_loopw [6] (fun v wr2=>v= .int .i64 20/\wr2=w1) (fun _ _=>0)
    case atStart=>exact⟨rfl,rfl⟩
    case round=>
     obtain⟨rfl,rfl⟩:=hrel;go_wp2;go_end0;exact⟨rfl,HE.out _ HS1.out⟩
end
def idL(n k:Nat):List Int:=nums (List.range k)++List.replicate (n - k) 0
theorem idL_len{n k:Nat}(h:k<=n):(idL n k).length=n:=by simp[idL,nums];omega
theorem idL_set{n k:Nat}(h:k<n):(idL n k).set k (k:Int)=idL n (k+1):=by
 unfold idL;rw[List.set_append_right _ _ (by simp[nums])]
 obtain⟨m,hm⟩: ∃m,n - k=m+1:=⟨n - k - 1,by omega⟩
 rw[hm,List.replicate_succ];have:n - (k+1)=m:=by omega
 rw[this,show(nums (List.range k)).length=k by simp[nums],Nat.sub_self,List.range_succ]
 simp[nums]
theorem idL_all(n:Nat):idL n n=nums (List.range n):=by simp[idL]
section
variable {A: Option Addr} {n c: Nat} {es: List Shp}
theorem sortStable_any{t:Nat->Int}{B g cap fn:Nat}{cb:Array Value}{w0:World}(eg: ∀args w,(callFunc fn args).run Tryz.prog w= .ok (.enter fn args) w)(hl:n<=20)
  (hO:OwnI w0 B (.slice (some ⟨g,0,none⟩) n cap) (nums (List.range n))) (hB:B<=w0.heap.size) (hp: ∀W,Below g w0 W-> ∀x y:Fin n,Calls Tryz.prog fn (#[.int .i64 (x.val:Int),.int .i64 (y.val:Int)]++cb) W fun e w'=>e= .returned (.int .i64 (cmpF t x y))/\ ∃q,w'=W.drewN q):
  Calls Tryz.prog 175 #[.slice (some ⟨g,0,none⟩) n cap,.func (.func fn) #[] cb] w0 fun e w'=>e= .returned (.tuple #[])/\OwnI w' B (.slice (some ⟨g,0,none⟩) n cap) (nums (ordO t n))/\Below g w0 w':=by
 have C:=Lib.hid (stable_any eg hl hO hB hp);clear hO hB hp;go_enter Tryz.func175,Tryz.ntmps175;go_wp2_with fail;refine C.out.mono ?_
 rintro e w' ⟨rfl,h⟩;have H:=Lib.hid h;clear h;go_wp2;go_end0;exact⟨rfl,H.out⟩
theorem order_any(w:World)(hn:es.length=n)(hl:n<=20)(hS:Shps w w.heap.size A es):
  Calls Tryz.prog 157 #[.slice A n c] w fun e w'=> ∃g,e= .returned (.slice (some ⟨g,0,none⟩) n n)/\OwnI w' w.heap.size (.slice (some ⟨g,0,none⟩) n n) (nums (ordO (totE es) n))/\Below w.heap.size w w':=by
 obtain⟨w0,hw0⟩: ∃w0,w0=w.alloc (.cells #[.slice A n c] 25):=⟨_,rfl⟩;have hb0:Below w.heap.size w w0:=by rw[hw0];exact below_alloc _
 have hrow:RowV w.heap.size 25 [.slice A n c] w0:=by rw[hw0];exact RowV.new w _ _
 have c0:=hrow.cell (j:=0) rfl;have hmk:=make_ints16 n (by omega) w0
 have hs0:w0.heap.size=w.heap.size+1:=by rw[hw0];simp
 obtain⟨w1,hw1⟩: ∃w1,w1=w0.alloc (.cells (List.replicate n (Value.int .i64 0)).toArray 3):=⟨_,rfl⟩;obtain⟨g,hg⟩: ∃g,g=w0.heap.size:=⟨_,rfl⟩;have hb1:Below g w0 w1:=by rw[hw1,hg];exact below_alloc _
 have HO1:Hid (OwnI w1 w.heap.size (.slice (some ⟨g,0,none⟩) n n) (idL n 0)):=Lib.hid (by
  have h:=heap_alloc_new w0 (.cells (List.replicate n (Value.int .i64 0)).toArray 3);rw[<-hw1,<-hg]at h;have e:idL n 0=List.replicate n 0:=by simp[idL,nums]
  rw[e];unfold OwnI;rw[List.length_replicate,List.map_replicate];exact⟨by simp,.inr ⟨g,n,_,rfl,by omega,h,Nat.le_refl _,by unfold maxLen;omega,by simp,by simp⟩⟩)
 rw[<-hg,<-hw1]at hmk;have HB01:=Lib.hid hb1;have HG:=Lib.hid (show g=w.heap.size+1 by omega)
 have HW:=Lib.hid hw0;have HB0:=Lib.hid hb0;have KC:=Lib.hid (fun(W2:World) (h2:Below g w0 W2) W (h:Below g W2 W) (x y:Fin n)=>byTot_any (c:=c) w.heap.size x.val y.val w.heap.size W hn (by omega) x.isLt y.isLt (hS.below (hb0.trans ((h2.trans h).mono (by omega)))) (((h2.trans h).cell (p:=⟨w.heap.size,0,none⟩) (show w.heap.size<g by omega)).trans c0))
 clear hw0 hb0 hrow hs0 hw1 hg hb1 hn hS;go_enter Tryz.func157,Tryz.ntmps157;go_wp2_with fail;rw[<-HW.out,hmk];go_wp2;go_loopw [10] (fun v wr=> ∃k:Nat,k<=n/\v= .int .i64 k/\Hid (OwnI wr w.heap.size (.slice (some ⟨g,0,none⟩) n n) (idL n k))/\Hid (Below g w0 wr)) (fun v _=>n - (intOf v).toNat)
 case atStart=>exact⟨0,Nat.zero_le _,rfl,HO1,HB01⟩
 case round=>
  clear HO1 HB01;obtain⟨k,hk,rfl,HO,HB⟩:=hrel
  by_cases hlt:k<n
  ·obtain ⟨zz,hzz⟩:=HO.out.cellC (j:=k) (by rw [idL_len hk]; exact hlt)
   have hfz:=HO.out.frozenC k;have HN:=Lib.hid (ownI_setC HO.out (j:=k) (by rw[idL_len hk];exact hlt) (k:Int))
   rw[idL_set hlt]at HN;have HBN:=Lib.hid (HB.out.setCell (p:=⟨g,k,none⟩) (Nat.le_refl _) (.int .i64 (k:Int)));go_wp2;go_roundw
   case rel=>exact⟨k+1,by omega,by go_num,HN,HBN⟩
   case measure=>simp[intOf];omega
  ·obtain rfl: n = k:=by omega
   rw[idL_all]at HO;have CS:=Lib.hid (sortStable_any (t:=totE es) (B:=w.heap.size) (g:=g) (cap:=n) (cb:=#[.pointer (some ⟨w.heap.size,0,none⟩)]) (eg_of Tryz.func176 (by kernel_rfl) rfl) hl HO.out (Nat.le_trans HB0.out.size HB.out.size) (fun W h x y=>by
    rw[cmpF_is];exact KC.out wr HB.out W h x y))
   go_wp2_with fail;refine CS.out.mono ?_
   rintro e w2 ⟨rfl,ho,b⟩;have HO2:=Lib.hid ho;have HB2:=Lib.hid (HB0.out.trans ((HB.out.trans b).mono (by rw[HG.out];omega)))
   clear ho b;go_wp2;go_ret;exact⟨g,rfl,HO2.out,HB2.out⟩
end
end Go.Proofs.YtlfekmbalgkmeaaGreatDoor
namespace Go.Proofs.YtlfekmbalgkmeaaGreatDoor
open Go.RowKit
end Go.Proofs.YtlfekmbalgkmeaaGreatDoor
namespace Go.Proofs.YtlfekmbalgkmeaaGreatDoor
open Go
section
variable {P: Program} {ops: Array Oper} {Q: Exit -> Act -> World -> Prop}
def unlisted(l:Array Bool):Nat:=l.toList.countP (fun b=> !b)
theorem countP_set: ∀(xs:List Bool) (i:Nat),xs[i]? =some false->(xs.set i true).countP (fun b=> !b)+1=xs.countP (fun b=> !b)
  | [],i,h=>by simp at h
  | x :: xs, 0, h => by
    obtain rfl:x=false:=by simpa using h
    simp
  | x :: xs, i + 1, h => by
    have ih:=countP_set xs i (by simpa using h)
    simp only[List.set_cons_succ,List.countP_cons];omega
theorem unlisted_set{l:Array Bool}{i:Nat}(h:l.getD i true=false):unlisted (l.setIfInBounds i true)+1=unlisted l:=by
 have hi:i<l.size:=by
  rcases Nat.lt_or_ge i l.size with h1|h1
  ·exact h1
  ·simp[Array.getElem?_eq_none h1]at h
 have h0:l[i]=false:=by simpa[hi]using h
 unfold unlisted;rw[Array.toList_setIfInBounds];refine countP_set l.toList i ?_
 rw[Array.getElem?_toList,Array.getElem?_eq_getElem hi,h0]
theorem wpAny_inv(Inv:Array Bool->Act->World->Prop)
    (hstep: ∀(listed:Array Bool) (a:Act) (w:World) (i:Nat),Inv listed a w->i∈Region.ready .any ops listed->wpOp P ops Q i (Inv (listed.setIfInBounds i true)) a w)
    (hend: ∀(listed:Array Bool) (a:Act) (w:World),Inv listed a w->Region.ready .any ops listed= []->Q .normal a w):
    ∀(fuel:Nat) (listed:Array Bool) (a:Act) (w:World),unlisted listed<=fuel->Inv listed a w->wpAny P .any ops Q fuel listed a w
  | 0, listed, a, w, hf, hI => by
    have hr:Region.ready .any ops listed= []:=by
      rw[List.eq_nil_iff_forall_not_mem];intro i hi;have:=unlisted_set (mem_ready.1 hi).1;omega
    exact⟨hr,hend _ _ _ hI hr⟩
  | fuel + 1, listed, a, w, hf, hI =>
    ⟨fun hr=>hend _ _ _ hI hr,fun i hi=>wpOp_mono (fun a' w' hI'=>wpAny_inv Inv hstep hend fuel _ a' w' (by have:=unlisted_set (mem_ready.1 hi).1;omega) hI') (hstep _ _ _ _ hI hi)⟩
theorem wp_region_inv{id:Nat}{a:Act}{w:World}(Inv:Array Bool->Act->World->Prop)(hm:P.follows .mixedOrders=true)
  (h0:Inv (Array.replicate ops.size false) a {w with drawn:=w.drawn+1})
  (hstep: ∀(listed:Array Bool) (a:Act) (w:World) (i:Nat),Inv listed a w->i∈Region.ready .any ops listed->wpOp P ops Q i (Inv (listed.setIfInBounds i true)) a w)
  (hend: ∀(listed:Array Bool) (a:Act) (w:World),Inv listed a w->Region.ready .any ops listed= []->Q .normal a w):(Code.region id ops true).wp P Q a w:=
 wp_region_any hm (wpAny_inv Inv hstep hend _ _ _ _ (by
  unfold unlisted;refine Nat.le_trans List.countP_le_length ?_
  simp) h0)
theorem all_listed{listed:Array Bool}(hs:listed.size=ops.size)(hb: ∀(i:Nat) (o:Oper),ops[i]? =some o-> ∀e∈o.after,e.on<i)(hr:Region.ready .any ops listed= []): ∀i,i<ops.size->listed.getD i false=true:=by
  intro i
  induction i using Nat.strongRecOn with
  | _ i ih =>
    intro hi;cases hl:listed.getD i false with
    |true=>rfl
    | false =>
      have hi2:i<listed.size:=by omega
      have h1:listed.getD i true=false:=by
        simp[hi2]at hl⊢;exact hl
      have h2:i∈Region.ready .any ops listed:=mem_ready.2 ⟨h1,ops[i],Array.getElem?_eq_getElem hi,fun e he _=>by
        have h3:=hb i _ (Array.getElem?_eq_getElem hi) e he
        exact ih e.on h3 (by omega)⟩
      rw[hr]at h2;simp at h2
def backB(ops:Array Oper):Bool:=(List.range ops.size).all fun i=>match ops[i]? with
 |some o=>o.after.all fun e=>decide (e.on<i)
 |none=>true
theorem back_of(h:backB ops=true): ∀(i:Nat) (o:Oper),ops[i]? =some o-> ∀e∈o.after,e.on<i:=by
 intro i o ho e he;have hi:i<ops.size:=by
  rcases Nat.lt_or_ge i ops.size with h1|h1
  ·exact h1
  ·rw[Array.getElem?_eq_none h1]at ho;cases ho
 have h1:=List.all_eq_true.1 h i (List.mem_range.2 hi);rw[ho]at h1;exact of_decide_eq_true (Array.all_eq_true'.1 h1 e he)
theorem listed_set{listed:Array Bool}{i k:Nat}(h:(listed.setIfInBounds i true).getD k false=true):k=i\/listed.getD k false=true:=by
 by_cases hik:i=k
 ·exact .inl hik.symm
 ·right
  simp[Array.getElem?_setIfInBounds_ne hik]at h
  simpa using h
theorem wpOp_at{i:Nat}{o:Oper}{a:Act}{w:World}{K:Act->World->Prop}(ho:ops[i]? =some o)(hg:o.guard=none)(h:o.wp P a w K Q):wpOp P ops Q i K a w:=by
 unfold wpOp;rw[ho];simp only[Region.wanted,hg,if_true];exact .inl h
end
end Go.Proofs.YtlfekmbalgkmeaaGreatDoor
