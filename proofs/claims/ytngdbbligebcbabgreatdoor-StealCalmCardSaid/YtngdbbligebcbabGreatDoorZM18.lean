import Derived.Test.YtngdbbligebcbabGreatDoorZM12
import Derived.Test.YtngdbbligebcbabGreatDoorZM17
import Derived.Deep.CutRange
import Derived.Deep.MidRow
import Derived.Deep.LoopGhost
import Derived.Test.YtngdbbligebcbabGreatDoorZM1
import Derived.Test.YtngdbbligebcbabGreatDoorZM8
import Derived.Test.YtngdbbligebcbabGreatDoorZM9
import Derived.Test.YtngdbbligebcbabGreatDoorZSchedGrahamMath
import Derived.Test.YtngdbbligebcbabGreatDoorZM7
import Derived.Lib.Hide
import Derived.Shelf.Abstract
import Derived.Test.YtngdbbligebcbabGreatDoorZM11
set_option linter.unusedSimpArgs false
set_option linter.unusedVariables false
set_option maxHeartbeats 4000000
namespace Go.Proofs.YtngdbbligebcbabGreatDoor
open Go Go.RowKit
structure Kp(bs:List Nat)(w w':World):Prop where
 os:w'.os=w.os
 tape:w'.tape=w.tape
 output:w'.output=w.output
 size:w.heap.size<=w'.heap.size
 block: ∀k,k<w.heap.size->k∉bs->w'.heap[k]? =w.heap[k]?
section
variable {w w' w'': World} {bs: List Nat}
theorem Kp.of_below(h:Below w.heap.size w w')(bs:List Nat):Kp bs w w':=⟨h.os,h.tape,h.output,h.size,fun k hk _=>h.block k hk⟩
theorem Kp.below(h:Kp bs w w'){base:Nat}(hb: ∀b∈bs,base<=b)(hs:base<=w.heap.size):Below base w w':=
 ⟨h.os,h.tape,h.output,h.size,fun k hk=>h.block k (by omega) fun q=>by have:=hb k q;omega⟩
theorem Kp.trans(h:Kp bs w w')(h2:Kp bs w' w''):Kp bs w w'':=
 ⟨h2.os.trans h.os,h2.tape.trans h.tape,h2.output.trans h.output,Nat.le_trans h.size h2.size,fun k hk hn=>(h2.block k (by have:=h.size;omega) hn).trans (h.block k hk hn)⟩
theorem Kp.more{cs:List Nat}(h:Kp bs w w')(hm: ∀b∈bs,b∈cs):Kp cs w w':=⟨h.os,h.tape,h.output,h.size,fun k hk hn=>h.block k hk fun q=>hn (hm k q)⟩
theorem Kp.set(h:Kp bs w w'){b k:Nat}(v:Value)(hb:b∈bs):Kp bs w (w'.setCell ⟨b,k,none⟩ v):=by
 refine⟨?_,?_,?_,?_,fun j hj hn=> ?_⟩
 ·exact((Below.refl 0 w').setCell (p:=⟨b,k,none⟩) (Nat.zero_le b) v).os.trans h.os
 ·exact((Below.refl 0 w').setCell (p:=⟨b,k,none⟩) (Nat.zero_le b) v).tape.trans h.tape
 ·exact((Below.refl 0 w').setCell (p:=⟨b,k,none⟩) (Nat.zero_le b) v).output.trans h.output
 ·exact Nat.le_trans h.size ((Below.refl 0 w').setCell (p:=⟨b,k,none⟩) (Nat.zero_le b) v).size
 ·rw [heap_setCell_other _ _ _ _ (fun q => hn (by rw [q]; exact hb))]
  exact h.block j hj hn
theorem Kp.row(h:Kp bs w w'){g:Nat}{t:TypeId}{vs:List Value}(hr:RowV g t vs w)(hn:g∉bs):RowV g t vs w':=by
 unfold RowV at hr⊢;rw[h.block g (Array.getElem?_eq_some_iff.1 hr).1 hn];exact hr
theorem Kp.own(h:Kp bs w w'){base n s:Nat}{e:TypeId}{v:Value}{xs:List Value}(ho:w.ownsRow base e s v n xs)(hn: ∀b,v.ownBlock=some b->b∉bs):w'.ownsRow base e s v n xs:=by
 refine⟨ho.1,?_⟩
 rcases ho.2 with h0|⟨g,cap,cur,rfl,hg,hgg,rest⟩
 ·exact .inl h0
 ·refine .inr ⟨g,cap,cur,rfl,hg,?_,rest⟩
  rw[h.block g (Array.getElem?_eq_some_iff.1 hgg).1 (hn g rfl)];exact hgg
end
structure IsWk(w:World)(base gw m:Nat)(g:Gng)(L:List Int)(a:GAd)(vW vE:Value):Prop where
 row:RowV gw 73 (gangC m a++ [vW,vE]) w
 hw:base<=gw
 gng:IsGng w base m g L a
section
variable {w w': World} {base gw m: Nat} {g: Gng} {L: List Int} {a: GAd} {vW vE: Value}
theorem IsWk.below(h:IsWk w base gw m g L a vW vE)(hb:Below w.heap.size w w'):IsWk w' base gw m g L a vW vE:=⟨h.row.below hb h.row.lt,h.hw,h.gng.below hb⟩
theorem results_cell1{fn:Func}{p:Tmp}{ty:TypeId}(h:fn.results= #[.cell p ty])(tmps:Array Value)(P:Program)(w:World):
  (results fn tmps).run P w=((asAddr (tmps.getD p undef)).run P w).andThen fun q w₁=>(loadVar ty q).run P w₁:=by
 simp only[results,h];simp[Sem.run_bind,Result.andThen]
theorem ret_tk1{fn:Func}{p:Tmp}(h:fn.results= #[.cell p 65]){tmps:Array Value}{w:World}{q:Nat}{cs:List Value}(hp:tmps.getD p undef= .pointer (some ⟨q,0,none⟩))(h1:RowV q 65 cs w)(l1:cs.length=6):
  (results fn tmps).run Tryz.prog w= .ok (.agg cs.toArray) w:=by
 rw[results_cell1 h,hp];simp[asAddr,load_tk h1 l1,Result.andThen]
theorem st_info:(Tryz.prog.info? 109).map (·.size)=some 1:=by kernel_rfl
theorem fresh_any(x:Int)(w:World):Calls Tryz.prog 119 #[.int .i64 x] w fun e w'=>e= .returned (vT (newTk (decide (x≠0))))/\Below w.heap.size w w':=by
 by_cases h:x=0
 ·have e1: (x != 0) = false:=by simp [h]
  have e2:decide (x≠0)=false:=by simp[h]
  rw[e2];go_enter Tryz.func119,Tryz.ntmps119;go_wp2_with fail;exact bodyPost_ret (ret_tk1 rfl rfl (RowV.new w 65 (cT (newTk false))) rfl) rfl ⟨rfl,below_alloc _⟩
 ·have e1: (x != 0) = true:=by simp [h]
  have e2:decide (x≠0)=true:=by simp[h]
  rw[e2];go_enter Tryz.func119,Tryz.ntmps119;go_wp2_with fail;exact bodyPost_ret (ret_tk1 rfl rfl (RowV.new w 65 (cT (newTk true))) rfl) rfl ⟨rfl,below_alloc _⟩
theorem ret_st1{fn:Func}{p:Tmp}(h:fn.results= #[.cell p 109]){tmps:Array Value}{w:World}{q:Nat}{cs:List Value}(hp:tmps.getD p undef= .pointer (some ⟨q,0,none⟩))(h1:RowV q 109 cs w)(l1:cs.length=1):
  (results fn tmps).run Tryz.prog w= .ok (.agg cs.toArray) w:=by
 rw[results_cell1 h,hp];have:(loadVar 109 ⟨q,0,none⟩).run Tryz.prog w= .ok (.agg cs.toArray) w:=by
  unfold RowV at h1;exact run_loadVar_mid w q 0 109 cs _ (fun j v hj=>by rw[Nat.zero_add];exact RowV.cell h1 hj) Tryz.underlying109 rfl (by rw[l1];exact st_info)
 simp[asAddr,this,Result.andThen]
theorem storeOf_row{c:Nat}(hc:c<m)(h:RowV gw 73 (gangC m a++ [vW,vE]) w):
  Calls Tryz.prog 70 #[.pointer (some ⟨gw,0,none⟩),.int .i64 c] w fun e w'=>e= .returned (.agg #[.pointer (some ⟨a.gD,3 * c,none⟩)])/\Below w.heap.size w w':=by
 have H:=Lib.hid h;have q2:w.cell? ⟨gw,2,none⟩=some (.slice (some ⟨a.gD,0,none⟩) m a.cD):=h.cell rfl
 have e3:c * 3=3 * c:=Nat.mul_comm _ _;have hlt:=h.lt;clear h;go_enter Tryz.func70,Tryz.ntmps70;go_wp2_with fail;exact bodyPost_ret (ret_st1 rfl rfl (RowV.new w 109 [.pointer (some ⟨a.gD,3 * c,none⟩)]) rfl) rfl ⟨rfl,below_alloc _⟩
theorem storeOf_any{c:Nat}(hc:c<m)(h:IsWk w base gw m g L a vW vE):
  Calls Tryz.prog 70 #[.pointer (some ⟨gw,0,none⟩),.int .i64 c] w fun e w'=>e= .returned (.agg #[.pointer (some ⟨a.gD,3 * c,none⟩)])/\Below w.heap.size w w':=storeOf_row hc h.row
end
end Go.Proofs.YtngdbbligebcbabGreatDoor
namespace Go.Proofs.YtngdbbligebcbabGreatDoor
open Go.RowKit
def Trc(w:World)(B:Nat)(A:Option Addr)(t:List (List Int)):Prop:=
 0<t.length-> ∃b off,A=some ⟨b,off,none⟩/\b<B/\ ∀k r,t[k]? =some r-> ∃A1 c1,w.cell? ⟨b,off+k,none⟩=some (.slice A1 r.length c1)/\Ints w B A1 r/\((A1=none->r.length=0/\c1=0)/\r.length<=c1)
theorem Trc.at_{w:World}{B:Nat}{A:Option Addr}{t:List (List Int)}{k:Nat}(h:Trc w B A t)(hk:k<t.length):
  ∃b off r A1 n1 c1,A=some ⟨b,off,none⟩/\b<B/\t[k]? =some r/\r.length=n1/\w.cell? ⟨b,off+k,none⟩=some (.slice A1 n1 c1)/\Ints w B A1 r/\((A1=none->n1=0/\c1=0)/\n1<=c1):=by
 obtain⟨b,off,e,hb,hc⟩:=h (by omega)
 have he:t[k]? =some t[k]:=List.getElem?_eq_getElem hk
 obtain⟨A1,c1,h1,h2,h3⟩:=hc k _ he;exact⟨b,off,t[k],A1,_,c1,e,hb,he,rfl,h1,h2,h3⟩
theorem Trc.keep{w w':World}{B:Nat}{A:Option Addr}{t:List (List Int)}(h:Trc w B A t)(hk: ∀p:Addr,p.block<B->w'.cell? p=w.cell? p):Trc w' B A t:=fun hn=>by
 obtain⟨b,off,e,hb,hc⟩:=h hn;refine⟨b,off,e,hb,fun k x hx=> ?_⟩
 obtain⟨A1,c1,h1,h2,h3⟩:=hc k x hx;exact⟨A1,c1,(hk _ hb).trans h1,h2.keep hk,h3⟩
theorem Trc.more{w:World}{B B':Nat}{A:Option Addr}{t:List (List Int)}(h:Trc w B A t)(hB:B<=B'):Trc w B' A t:=fun hn=>by
 obtain⟨b,off,e,hb,hc⟩:=h hn;refine⟨b,off,e,by omega,fun k x hx=> ?_⟩
 obtain⟨A1,c1,h1,h2,h3⟩:=hc k x hx;exact⟨A1,c1,h1,h2.more hB,h3⟩
theorem Trc.below{w w':World}{B:Nat}{A:Option Addr}{t:List (List Int)}(h:Trc w B A t)(hb:Below B w w'):Trc w' B A t:=h.keep fun _ hp=>hb.cell hp
theorem Trc.take{w:World}{B:Nat}{A:Option Addr}{t:List (List Int)}(h:Trc w B A t)(i:Nat):Trc w B A (t.take i):=fun hn=>by
 have hl:(t.take i).length<=t.length:=by simp;omega
 obtain⟨b,off,e,hb,hc⟩:=h (by omega)
 refine⟨b,off,e,hb,fun k r hk=> ?_⟩
 rw[List.getElem?_take]at hk
 split at hk
 ·exact hc k r hk
 ·cases hk
structure IsS(w:World)(N:Option Addr)(nn nc:Nat)(T:Option Addr)(tn tc:Nat)(need:List Int)(t:List (List Int)):Prop where
 hn:need.length=nn
 ht:t.length=tn
 ln:nn<=400
 lt:tn<=400
 lr: ∀r∈t,r.length<=400
 ints:Ints w w.heap.size N need
 rows:Trc w w.heap.size T t
 hN:N=none->nn=0/\nc=0
 hT:T=none->tn=0/\tc=0
theorem IsS.below{w w':World}{N:Option Addr}{nn nc:Nat}{T:Option Addr}{tn tc:Nat}{need:List Int}{t:List (List Int)}(h:IsS w N nn nc T tn tc need t)(hb:Below w.heap.size w w'):IsS w' N nn nc T tn tc need t:=
 ⟨h.hn,h.ht,h.ln,h.lt,h.lr,(h.ints.below hb).more hb.size,(h.rows.below hb).more hb.size,h.hN,h.hT⟩
def upd(f:Nat->Int)(n:Nat)(z:Int):Nat->Int:=fun k=>if k=n then z else f k
theorem upd_at(f:Nat->Int)(n:Nat)(z:Int):upd f n z n=z:=if_pos rfl
theorem upd_not(f:Nat->Int){n k:Nat}(z:Int)(h:k≠n):upd f n z k=f k:=if_neg h
def pastV(ran lt lc:Nat->Int):List Value:=(List.range 64).map (fun n=>Value.int .i64 (ran n))++(List.range 128).map (fun j=>Value.int .i64 (if j%2=0 then lt (j/2)else lc (j/2)))
theorem pastV_length(ran lt lc:Nat->Int):(pastV ran lt lc).length=192:=by simp[pastV]
theorem pastV_lo{ran lt lc:Nat->Int}{n:Nat}(h:n<64):(pastV ran lt lc)[n]? =some (.int .i64 (ran n)):=by
 unfold pastV;rw[List.getElem?_append_left (by simpa using h),List.getElem?_map,List.getElem?_range h];rfl
theorem pastV_hi{ran lt lc:Nat->Int}{j:Nat}(h:j<128):(pastV ran lt lc)[64+j]? =some (.int .i64 (if j%2=0 then lt (j/2)else lc (j/2))):=by
 unfold pastV;rw[List.getElem?_append_right (by simp),List.length_map,List.length_range,Nat.add_sub_cancel_left,List.getElem?_map,List.getElem?_range h];rfl
theorem pastV_t{ran lt lc:Nat->Int}{n:Nat}(h:n<64):(pastV ran lt lc)[64+n * 2]? =some (.int .i64 (lt n)):=by
 rw[pastV_hi (by omega),if_pos (by omega),show n * 2/2=n by omega]
theorem pastV_c{ran lt lc:Nat->Int}{n:Nat}(h:n<64):(pastV ran lt lc)[64+n * 2+1]? =some (.int .i64 (lc n)):=by
 rw[show 64+n * 2+1=64+(n * 2+1) by omega,pastV_hi (by omega),if_neg (by omega),show(n * 2+1)/2=n by omega]
theorem pastV_ext{ran lt lc:Nat->Int}{l:List Value}(hl:l.length=192)(h1: ∀n,n<64->l[n]? =some (.int .i64 (ran n)))(h2: ∀n,n<64->l[64+n * 2]? =some (.int .i64 (lt n)))(h3: ∀n,n<64->l[64+n * 2+1]? =some (.int .i64 (lc n))):l=pastV ran lt lc:=by
 apply List.ext_getElem?
 intro i;rcases Nat.lt_or_ge i 64 with hi|hi
 ·rw[h1 i hi,pastV_lo hi]
 ·rcases Nat.lt_or_ge i 192 with hj | hj
  ·obtain ⟨k,hk | hk⟩: ∃ k,i = 64 + k * 2 \/ i = 64 + k * 2 + 1:=⟨(i - 64) / 2,by omega⟩
   ·rw[hk,h2 k (by omega),pastV_t (by omega)]
   ·rw[hk,h3 k (by omega),pastV_c (by omega)]
  ·rw[List.getElem?_eq_none (by omega),List.getElem?_eq_none (by rw[pastV_length];omega)]
theorem pastV_set_r(ran lt lc:Nat->Int){n:Nat}(h:n<64)(z:Int):(pastV ran lt lc).set n (.int .i64 z)=pastV (upd ran n z) lt lc:=by
 refine pastV_ext (by rw[List.length_set,pastV_length]) (fun k hk=> ?_) (fun k hk=> ?_) (fun k hk=> ?_)
 ·rw [List.getElem?_set]
  by_cases e:n=k
  ·rw[if_pos e,if_pos (by rw[pastV_length];omega),<-e,upd_at]
  ·rw[if_neg e,pastV_lo hk,upd_not _ _ (fun q=>e q.symm)]
 ·rw[List.getElem?_set,if_neg (by omega),pastV_t hk]
 ·rw[List.getElem?_set,if_neg (by omega),pastV_c hk]
theorem pastV_set_t(ran lt lc:Nat->Int){n:Nat}(h:n<64)(z:Int):(pastV ran lt lc).set (64+n * 2) (.int .i64 z)=pastV ran (upd lt n z) lc:=by
 refine pastV_ext (by rw[List.length_set,pastV_length]) (fun k hk=> ?_) (fun k hk=> ?_) (fun k hk=> ?_)
 ·rw[List.getElem?_set,if_neg (by omega),pastV_lo hk]
 ·rw [List.getElem?_set]
  by_cases e:n=k
  ·rw[if_pos (by omega),if_pos (by rw[pastV_length];omega),<-e,upd_at]
  ·rw[if_neg (by omega),pastV_t hk,upd_not _ _ (fun q=>e q.symm)]
 ·rw[List.getElem?_set,if_neg (by omega),pastV_c hk]
theorem pastV_set_c(ran lt lc:Nat->Int){n:Nat}(h:n<64)(z:Int):(pastV ran lt lc).set (64+n * 2+1) (.int .i64 z)=pastV ran lt (upd lc n z):=by
 refine pastV_ext (by rw[List.length_set,pastV_length]) (fun k hk=> ?_) (fun k hk=> ?_) (fun k hk=> ?_)
 ·rw[List.getElem?_set,if_neg (by omega),pastV_lo hk]
 ·rw[List.getElem?_set,if_neg (by omega),pastV_t hk]
 ·rw [List.getElem?_set]
  by_cases e:n=k
  ·rw[if_pos (by omega),if_pos (by rw[pastV_length];omega),<-e,upd_at]
  ·rw[if_neg (by omega),pastV_c hk,upd_not _ _ (fun q=>e q.symm)]
def Past(g:Nat)(ran lt lc:Nat->Int)(w:World):Prop:=RowV g 177 (pastV ran lt lc) w
section
variable {g: Nat} {ran lt lc: Nat -> Int} {w w': World}
theorem Past.lt_(h:Past g ran lt lc w):g<w.heap.size:=RowV.lt h
theorem Past.cells(h:Past g ran lt lc w){n:Nat}(hn:n<64):w.cell? ⟨g,n,none⟩=some (.int .i64 (ran n))/\w.cell? ⟨g,64+n * 2,none⟩=some (.int .i64 (lt n))/\w.cell? ⟨g,64+n * 2+1,none⟩=some (.int .i64 (lc n)):=
 ⟨RowV.cell h (pastV_lo hn),RowV.cell h (pastV_t hn),RowV.cell h (pastV_c hn)⟩
theorem Past.frozen(h:Past g ran lt lc w)(j:Nat):w.frozen? ⟨g,j,none⟩=false:=RowV.frozen h j
theorem Past.below(h:Past g ran lt lc w){B:Nat}(hb:Below B w w')(hB:g<B):Past g ran lt lc w':=RowV.below h hb hB
theorem Past.ran_(h:Past g ran lt lc w){n:Nat}(hn:n<64)(z:Int):Past g (upd ran n z) lt lc (w.setCell ⟨g,n,none⟩ (.int .i64 z)):=by
 unfold Past;rw[<-pastV_set_r _ _ _ hn];exact RowV.set h n _
theorem Past.place(h:Past g ran lt lc w){n:Nat}(hn:n<64)(a c:Int):Past g ran (upd lt n a) (upd lc n c) ((w.setCell ⟨g,64+n * 2,none⟩ (.int .i64 a)).setCell ⟨g,64+n * 2+1,none⟩ (.int .i64 c)):=by
 unfold Past;rw[<-pastV_set_c _ _ _ hn,<-pastV_set_t _ _ _ hn];exact RowV.set (RowV.set h _ _) _ _
end
theorem idx_int(A:Option Addr)(c n:Nat)(es:List Int)(g:Nat)(lb:Array Value)(eg: ∀args w,(callFunc g args).run Tryz.prog w= .ok (.enter g args) w)(p:Nat->Bool)(I:Nat->World->Prop)(B:Nat)(hn:es.length=n)(hl:n<=1000)
    (hT: ∀k W,I k W->Ints W B A es)
    (hp: ∀k x W,es[k]? =some x->I k W->Calls Tryz.prog g (#[.int .i64 x]++lb) W fun e w'=>e= .returned (.bool (p k))/\I (k+1) w')
    (w:World) (h0:I 0 w):
    Calls Tryz.prog 63 #[.slice A n c, .func (.func g) #[] lb] w fun e w'=> ∃r k,e= .returned (.int .i64 r)/\I k w'/\(0<=r↔ ∃j,j<n/\p j=true):=by
  have HT:=Lib.hid hT;have HP:=Lib.hid hp;have HN:=Lib.hid hn;have H0:=Lib.hid h0;clear hT hp hn h0;go_enter Tryz.func63,Tryz.ntmps63;go_wp2;go_loopw [8] (fun v wr=> ∃k:Nat,k<=n/\v= .int .i64 k/\Hid (I k wr)/\Hid (∀j,j<k->p j=false)) (fun v _=>n - (intOf v).toNat)
  case atStart=>exact⟨0,Nat.zero_le _,rfl,H0,Lib.hid (fun j hj=>absurd hj (Nat.not_lt_zero _))⟩
  case round=>
    obtain⟨k,hk,rfl,HI,HF⟩:=hrel;clear H0
    by_cases hlt:k<n
    · obtain⟨bk,off,x,rfl,hbg,hek,d1⟩:=(HT.out k wr HI.out).at_ (k:=k) (by rw[HN.out];exact hlt)
      have HEK:=Lib.hid hek;have hcall:=HP.out k x wr hek HI.out;clear hek
      skip
      cases hq:p k with
      | true =>
        have HQ:=Lib.hid hq;rw[hq]at hcall;clear hq
        go_wp2_with(go_at_fn g;refine hcall.mono ?_;rintro e w' ⟨rfl,hb'⟩)
        go_ret;exact⟨_,k+1,rfl,hb',⟨fun _=>⟨k,hlt,HQ.out⟩,fun _=>by omega⟩⟩
      | false =>
        have HQ:=Lib.hid hq;rw[hq]at hcall;clear hq
        go_wp2_with(go_at_fn g;refine hcall.mono ?_;rintro e w' ⟨rfl,hb'⟩;have HB:=Lib.hid hb';clear hb')
        go_roundw
        case rel=>exact⟨k+1,by omega,by go_num,HB,Lib.hid (fun j hj=>by
          by_cases e:j=k
          · rw[e];exact HQ.out
          · exact HF.out j (by omega))⟩
        case measure=>simp[intOf];omega
    · have e:k=n:=by omega
      subst e;go_wp2;go_ret;exact⟨_,k,rfl,HI.out,⟨fun h=>absurd h (by decide),fun⟨j,hj,hpj⟩=>by rw[HF.out j hj]at hpj;cases hpj⟩⟩
theorem has_int(A:Option Addr)(c n:Nat)(es:List Int)(g:Nat)(lb:Array Value)(eg: ∀args w,(callFunc g args).run Tryz.prog w= .ok (.enter g args) w)(p:Nat->Bool)(I:Nat->World->Prop)(B:Nat)(hn:es.length=n)(hl:n<=1000)
    (hT: ∀k W,I k W->Ints W B A es)
    (hp: ∀k x W,es[k]? =some x->I k W->Calls Tryz.prog g (#[.int .i64 x]++lb) W fun e w'=>e= .returned (.bool (p k))/\I (k+1) w')
    (r:Bool) (hr:r=true↔ ∃j,j<n/\p j=true) (w:World) (h0:I 0 w):
    Calls Tryz.prog 32 #[.slice A n c, .func (.func g) #[] lb] w fun e w'=>e= .returned (.bool r)/\ ∃k,I k w':=by
  have C:=idx_int A c n es g lb eg p I B hn hl hT hp w h0;have HR:=Lib.hid hr;clear hT hp hn h0 hr;go_enter Tryz.func32,Tryz.ntmps32;go_wp2_with fail;refine C.mono ?_
  rintro e w1 ⟨v,k,rfl,hI,hv⟩;have HI:=Lib.hid hI;have HV:=Lib.hid hv;clear hI hv;cases r with
  | true =>
    have hg:0<=v:=HV.out.mpr (HR.out.mp rfl);go_wp2;go_ret;exact⟨rfl,k,HI.out⟩
  | false =>
    have hg:decide (0<=v)=false:=by
      rw[decide_eq_false_iff_not];exact fun h=>absurd (HR.out.mpr (HV.out.mp h)) (by simp)
    go_wp2;go_ret
    exact⟨rfl,k,HI.out⟩
theorem idx_row(A:Option Addr)(c n:Nat)(es:List (List Int))(g:Nat)(lb:Array Value)(eg: ∀args w,(callFunc g args).run Tryz.prog w= .ok (.enter g args) w)(p:Nat->Bool)(I:Nat->World->Prop)(B:Nat)(hn:es.length=n)(hl:n<=1000)
    (hT: ∀k W,I k W->Trc W B A es)
    (hp: ∀k xs A1 n1 c1 W,es[k]? =some xs->xs.length=n1->Ints W B A1 xs->((A1=none->n1=0/\c1=0)/\n1<=c1)->I k W->Calls Tryz.prog g (#[.slice A1 n1 c1]++lb) W fun e w'=>e= .returned (.bool (p k))/\I (k+1) w')
    (w:World) (h0:I 0 w):
    Calls Tryz.prog 155 #[.slice A n c, .func (.func g) #[] lb] w fun e w'=> ∃r k,e= .returned (.int .i64 r)/\I k w'/\(0<=r↔ ∃j,j<n/\p j=true):=by
  have HT:=Lib.hid hT;have HP:=Lib.hid hp;have HN:=Lib.hid hn;have H0:=Lib.hid h0;clear hT hp hn h0;go_enter Tryz.func155,Tryz.ntmps155;go_wp2;go_loopw [8] (fun v wr=> ∃k:Nat,k<=n/\v= .int .i64 k/\Hid (I k wr)/\Hid (∀j,j<k->p j=false)) (fun v _=>n - (intOf v).toNat)
  case atStart=>exact⟨0,Nat.zero_le _,rfl,H0,Lib.hid (fun j hj=>absurd hj (Nat.not_lt_zero _))⟩
  case round=>
    obtain⟨k,hk,rfl,HI,HF⟩:=hrel;clear H0
    by_cases hlt:k<n
    · obtain⟨bk,off,xs,A1,n1,c1,rfl,hbg,hek,hn1,d1,hxs,hz1⟩:=(HT.out k wr HI.out).at_ (k:=k) (by rw[HN.out];exact hlt)
      have HEK:=Lib.hid hek;have hcall:=HP.out k xs A1 n1 c1 wr hek hn1 hxs hz1 HI.out;clear hek hn1 hxs hz1
      skip
      cases hq:p k with
      | true =>
        have HQ:=Lib.hid hq;rw[hq]at hcall;clear hq
        go_wp2_with(go_at_fn g;refine hcall.mono ?_;rintro e w' ⟨rfl,hb'⟩)
        go_ret;exact⟨_,k+1,rfl,hb',⟨fun _=>⟨k,hlt,HQ.out⟩,fun _=>by omega⟩⟩
      | false =>
        have HQ:=Lib.hid hq;rw[hq]at hcall;clear hq
        go_wp2_with(go_at_fn g;refine hcall.mono ?_;rintro e w' ⟨rfl,hb'⟩;have HB:=Lib.hid hb';clear hb')
        go_roundw
        case rel=>exact⟨k+1,by omega,by go_num,HB,Lib.hid (fun j hj=>by
          by_cases e:j=k
          · rw[e];exact HQ.out
          · exact HF.out j (by omega))⟩
        case measure=>simp[intOf];omega
    · have e:k=n:=by omega
      subst e;go_wp2;go_ret;exact⟨_,k,rfl,HI.out,⟨fun h=>absurd h (by decide),fun⟨j,hj,hpj⟩=>by rw[HF.out j hj]at hpj;cases hpj⟩⟩
theorem has_row(A:Option Addr)(c n:Nat)(es:List (List Int))(g:Nat)(lb:Array Value)(eg: ∀args w,(callFunc g args).run Tryz.prog w= .ok (.enter g args) w)(p:Nat->Bool)(I:Nat->World->Prop)(B:Nat)(hn:es.length=n)(hl:n<=1000)
    (hT: ∀k W,I k W->Trc W B A es)
    (hp: ∀k xs A1 n1 c1 W,es[k]? =some xs->xs.length=n1->Ints W B A1 xs->((A1=none->n1=0/\c1=0)/\n1<=c1)->I k W->Calls Tryz.prog g (#[.slice A1 n1 c1]++lb) W fun e w'=>e= .returned (.bool (p k))/\I (k+1) w')
    (r:Bool) (hr:r=true↔ ∃j,j<n/\p j=true) (w:World) (h0:I 0 w):
    Calls Tryz.prog 142 #[.slice A n c, .func (.func g) #[] lb] w fun e w'=>e= .returned (.bool r)/\ ∃k,I k w':=by
  have C:=idx_row A c n es g lb eg p I B hn hl hT hp w h0;have HR:=Lib.hid hr;clear hT hp hn h0 hr;go_enter Tryz.func142,Tryz.ntmps142;go_wp2_with fail;refine C.mono ?_
  rintro e w1 ⟨v,k,rfl,hI,hv⟩;have HI:=Lib.hid hI;have HV:=Lib.hid hv;clear hI hv;cases r with
  | true =>
    have hg:0<=v:=HV.out.mpr (HR.out.mp rfl);go_wp2;go_ret;exact⟨rfl,k,HI.out⟩
  | false =>
    have hg:decide (0<=v)=false:=by
      rw[decide_eq_false_iff_not];exact fun h=>absurd (HR.out.mpr (HV.out.mp h)) (by simp)
    go_wp2;go_ret
    exact⟨rfl,k,HI.out⟩
theorem index_any(A:Option Addr)(c n:Nat)(zs:List Int)(x:Int)(B:Nat)(w:World)(hn:zs.length=n)(hl:n<=1000)(hI:Ints w B A zs):
  Calls Tryz.prog 101 #[.slice A n c,.int .i64 x] w fun e w'=> ∃r,e= .returned (.int .i64 r)/\(0<=r↔x∈zs)/\w'=w:=by
 have HI:=Lib.hid hI;have HN:=Lib.hid hn;clear hn hI;go_enter Tryz.func101,Tryz.ntmps101;go_wp2;go_loop [8] (fun v=> ∃k:Nat,k<=n/\v= .int .i64 k/\Hid (x∉zs.take k)) (fun v=>n - (intOf v).toNat)
 case atStart=>exact⟨0,Nat.zero_le _,rfl,Lib.hid (by simp)⟩
 case round=>
  obtain⟨k,hk,rfl,HF⟩:=hrel
  by_cases hlt:k<n
  ·obtain ⟨bk,off,z,rfl,hbg,hek,d1⟩:=HI.out.at_ (k:=k) (by rw [HN.out]; exact hlt)
   have HEK:=Lib.hid hek;clear hek
   by_cases hq:x=z
   ·subst hq
    go_wp2;go_ret
    exact⟨_,rfl,⟨fun _=>List.mem_of_getElem? HEK.out,fun _=>by omega⟩,rfl⟩
   ·have hqf: (x == z) = false:=by simpa using hq
    have HQ:=Lib.hid hq;clear hq;go_wp2;go_round
    case rel=>exact⟨k+1,by omega,by go_num,Lib.hid (fun hm=>by
     rw[take_snoc' HEK.out,List.mem_append,List.mem_singleton]at hm;rcases hm with hm|hm
     ·exact HF.out hm
     ·exact HQ.out hm)⟩
    case measure=>simp[intOf];omega
  ·have e: k = n:=by omega
   subst e;have HT:=HF.out;rw[List.take_of_length_le (by rw[HN.out];omega)]at HT
   have HT':=Lib.hid HT;clear HT;go_wp2;go_ret;exact⟨_,rfl,⟨fun h=>absurd h (by decide),fun h=>absurd h HT'.out⟩,rfl⟩
theorem contains_any(A:Option Addr)(c n:Nat)(zs:List Int)(x:Int)(B:Nat)(w:World)(hn:zs.length=n)(hl:n<=1000)(hI:Ints w B A zs):
  Calls Tryz.prog 66 #[.slice A n c,.int .i64 x] w fun e w'=>e= .returned (.bool (decide (x∈zs)))/\w'=w:=by
 have C:=Lib.hid (index_any A c n zs x B w hn hl hI);obtain⟨b,hb⟩: ∃b,b=decide (x∈zs):=⟨_,rfl⟩;rw[<-hb];have HBB:=Lib.hid hb;clear hn hI hb;go_enter Tryz.func66,Tryz.ntmps66;go_wp2_with fail;refine C.out.mono ?_
 rintro e w1 ⟨r,rfl,hr,rfl⟩;have HR:=Lib.hid hr;clear hr
 by_cases h:0<=r
 ·obtain rfl: b = true:=HBB.out.trans (decide_eq_true (HR.out.mp h))
  go_wp2;go_ret
  exact⟨rfl,rfl⟩
 ·obtain rfl: b = false:=HBB.out.trans (decide_eq_false (fun q => h (HR.out.mpr q)))
  have hg:decide (0<=r)=false:=decide_eq_false h;clear h;go_wp2;go_ret;exact⟨rfl,rfl⟩
end Go.Proofs.YtngdbbligebcbabGreatDoor
namespace Go.Proofs.YtngdbbligebcbabGreatDoor
open Go Go.RowKit
theorem idx_none(g:Nat)(lb:Array Value)(w:World):Calls Tryz.prog 63 #[.slice none 0 0,.func (.func g) #[] lb] w fun e w'=>e= .returned (.int .i64 (-1))/\w'=w:=by
 go_enter Tryz.func63,Tryz.ntmps63;go_wp2;go_loopw [8] (fun v wr=>v= .int .i64 0/\wr=w) (fun v _=>0)
 case atStart=>exact⟨rfl,rfl⟩
 case round=>
  obtain⟨rfl,rfl⟩:=hrel;go_wp2;go_ret;exact⟨rfl,rfl⟩
theorem del_none(g:Nat)(lb:Array Value)(w:World):Calls Tryz.prog 68 #[.slice none 0 0,.func (.func g) #[] lb] w fun e w'=>e= .returned (.slice none 0 0)/\w'=w:=by
 have C:=Lib.hid (idx_none g lb w);go_enter Tryz.func68,Tryz.ntmps68
 go_wp2_with(go_at_call 63;refine C.out.mono ?_;rintro e w' ⟨rfl,rfl⟩)
 go_ret;exact⟨rfl,rfl⟩
theorem zero_int(w:World):(zeroValue 3).run Tryz.prog w= .ok (.int .i64 0) w:=by
 obtain⟨i0,hi,hz0,hz1,hz2⟩:=int_info1;simp[zeroValue,typeInfo,hi,hz0]
section
variable {w: World} {B: Nat} {A: Option Addr} {n c: Nat} {zs: List Int}
theorem del_own(h:OwnI w B (.slice A n c) zs)(hl:zs.length=n)(hn:n<=1000)(g:Nat)(eg: ∀args w,(callFunc g args).run Tryz.prog w= .ok (.enter g args) w)(p:Int->Bool){q:Nat}{A2:Option Addr}{c2:Nat}{ys:List Int}
  (hc:w.cell? ⟨q,0,none⟩=some (.slice A2 ys.length c2)) (hq:q<w.heap.size) (hqb:(Value.slice A n c).ownBlock≠some q) (hy:Ints w w.heap.size A2 ys) (hyb: ∀b off,A2=some ⟨b,off,none⟩->(Value.slice A n c).ownBlock≠some b)
  (hp: ∀W x,W.cell? ⟨q,0,none⟩=some (.slice A2 ys.length c2)->Ints W w.heap.size A2 ys->Calls Tryz.prog g #[.int .i64 x,.pointer (some ⟨q,0,none⟩)] W fun e w'=>e= .returned (.bool (p x))/\w'=W):
  Calls Tryz.prog 68 #[.slice A n c,.func (.func g) #[] #[.pointer (some ⟨q,0,none⟩)]] w fun e w'=>
   e= .returned (.slice A (zs.filter fun x=> !p x).length c)/\OwnI w' B (.slice A (zs.filter fun x=> !p x).length c) (zs.filter fun x=> !p x)/\ ∀bs:List Nat,(∀b,(Value.slice A n c).ownBlock=some b->b∈bs)->Kp bs w w':=by
 subst hl;rcases h.2 with⟨e,hx⟩|⟨b,cap,cur,e,hb,hbb,hnc,hcm,hcs,ht⟩
 ·injection e with e1 e2 e3
  subst e1 e3;obtain rfl:zs= []:=List.eq_nil_of_length_eq_zero e2;refine(del_none g _ w).mono ?_
  rintro e w' ⟨rfl,rfl⟩;exact⟨rfl,⟨rfl,.inl ⟨rfl,rfl⟩⟩,fun bs _=>Kp.of_below (Below.refl _ _) _⟩
 ·injection e with e1 e2 e3
  subst e1 e3;have hbl:b<w.heap.size:=(Array.getElem?_eq_some_iff.1 hbb).1
  have hqb':q≠b:=fun e=>hqb (by rw[e];rfl)
  have hcur:cur.size=c:=by omega
  have hcell: ∀j (hj:j<zs.length),w.cell? ⟨b,j,none⟩=some (.int .i64 zs[j]):=fun j hj=>by
   rw[cell_of_row _ _ _ _ _ _ hbb];have h1:(cur.toList.take (zs.length * 1))[j]? =(zs.map (Value.int .i64))[j]?:=by rw[ht]
   rw[List.getElem?_take,if_pos (by omega),Array.getElem?_toList,List.getElem?_map,List.getElem?_eq_getElem hj]at h1
   exact h1
  have hH:Sort.Holds (Value.int .i64) w b 0 zs.toArray:=fun j hj=>by
   have hj':j<zs.length:=by simpa using hj
   refine⟨?_,frozen_of_row w b _ _ _ hbb⟩
   rw[Nat.zero_add,hcell j hj'];simp[hj']
  have hat: ∀(W:World) (x:Int),(∀k,k≠b->k<w.heap.size-> ∀i,W.cell? ⟨k,i,none⟩=w.cell? ⟨k,i,none⟩)->Calls Tryz.prog g #[.int .i64 x,.pointer (some ⟨q,0,none⟩)] W fun e w'=>e= .returned (.bool (p x))/\w'=W:=fun W x hW=>
   hp W x ((hW q hqb' hq 0).trans hc) (fun hn=>by
    obtain⟨b2,off,e,hb2,hc2⟩:=hy hn;have hne:b2≠b:=fun e2=>hyb b2 off e (by rw[e2];rfl)
    exact⟨b2,off,e,hb2,fun k hk=>(hW b2 hne hb2 _).trans (hc2 k hk)⟩)
  have C:=Tryz.slices_DeleteFunc (Value.int .i64) (fun _=>rfl) p g #[.pointer (some ⟨q,0,none⟩)] eg 0 zero_int b 0 c zs.toArray w
   (fun W x hW=>(hat W x fun k _ hk i=>hW.cell hk).mono fun e w' h=>⟨h.1,0,h.2⟩)
   (fun m os dk x _ => (hat _ x fun k hk hk2 i => by
    unfold sortWorld;rw[Sort.cell?_grow _ _ _ (by rw[Sort.size_putRow];exact hk2),Sort.cell?_putRow_other _ _ b 0 _ _ (.inl hk)]
    rfl).mono fun e w' h=>⟨h.1,0,h.2⟩) hH (by have:=hcm;simp;unfold maxLen at this;omega) (by simpa using hnc)
  have hsz:zs.toArray.size=zs.length:=by simp
  rw[hsz]at C;refine C.mono ?_
  rintro e w' ⟨rfl,k,rfl⟩;obtain⟨fs,hfs⟩: ∃fs,fs=zs.filter fun x=> !p x:=⟨_,rfl⟩
  have hfl:fs.length<=zs.length:=by rw[hfs];exact List.length_filter_le _ _
  have hfs2:(zs.toArray.toList.filter fun x=> !p x)=fs:=by rw[hfs]
  rw[hfs2];have hgA:(Sort.ahead w k).heap[b]? =some (.cells cur 3 (0,0)):=hbb
  refine⟨rfl,?_,fun bs hbs=>⟨rfl,rfl,rfl,by rw[Sort.size_putRow];exact Nat.le_refl _,fun j hj hjb=> ?_⟩⟩
  ·refine ⟨by rw [List.length_map,Nat.mul_one],.inr ⟨b,c,Sort.putCells (Value.int .i64) 0 (fs ++ List.replicate (zs.length - fs.length) 0).toArray cur,rfl,hb,heap_putRow hgA _,by omega,hcm,by simp [Sort.putCells]; omega,?_⟩⟩
   have h1:=take_putCells (cur:=cur) (zs:=fs++List.replicate (zs.length - fs.length) 0) (by rw[List.length_append,List.length_replicate];omega)
   have h2:=congrArg (List.take fs.length) h1;rw[List.take_take,List.length_append,List.length_replicate,show min fs.length (fs.length+(zs.length - fs.length))=fs.length by omega,List.map_append,List.take_left' (by rw[List.length_map])]at h2
   rw[Nat.mul_one];exact h2
  ·have hjb2: j ≠ b:=fun e => hjb (hbs j (by rw [e]; rfl))
   rw[heap_putRow_other (Sort.ahead w k) hjb2];rfl
end
end Go.Proofs.YtngdbbligebcbabGreatDoor
