import Derived.Test.YtngdbbligebcbabGreatDoorZM1
import Derived.Test.YtngdbbligebcbabGreatDoorZM6
import Derived.Test.YtngdbbligebcbabGreatDoorZM7
import Derived.Test.YtngdbbligebcbabGreatDoorZSchedGrahamMath
import Derived.Lib.Hide
import Derived.BigQuiet
import Derived.Laws.ResultCell
import Derived.Shelf.Abstract
import Derived.WalkKit
import Derived.Test.YtngdbbligebcbabGreatDoorChecked
import Derived.Test.YtngdbbligebcbabGreatDoorZM4
import Derived.Laws.BitsAllLaws
set_option linter.unusedVariables false
set_option maxRecDepth 100000
set_option maxHeartbeats 4000000
namespace Go.Proofs.YtngdbbligebcbabGreatDoor
open Go.RowKit
def Trc(w:World)(B:Nat)(A:Option Addr)(t:List (List Int)):Prop:=
 0<t.length-> ∃b off,A=some ⟨b,off,none⟩/\b<B/\ ∀k r,t[k]? =some r-> ∃A1 c1,w.cell? ⟨b,off+k,none⟩=some (.slice A1 r.length c1)/\Ints w B A1 r/\((A1=none->r.length=0/\c1=0)/\r.length<=c1)
theorem Trc.at_{w:World}{B:Nat}{A:Option Addr}{t:List (List Int)}{k:Nat}(h:Trc w B A t)(hk:k<t.length):
  ∃b off r A1 n1 c1,A=some ⟨b,off,none⟩/\b<B/\t[k]? =some r/\r.length=n1/\w.cell? ⟨b,off+k,none⟩=some (.slice A1 n1 c1)/\Ints w B A1 r/\((A1=none->n1=0/\c1=0)/\n1<=c1):=by
 obtain⟨b,off,e,hb,hc⟩:=h (by omega)
 have he:t[k]? =some t[k]:=List.getElem?_eq_getElem hk
 obtain⟨A1,c1,h1,h2,h3⟩:=hc k _ he;exact⟨b,off,t[k],A1,_,c1,e,hb,he,rfl,h1,h2,h3⟩
theorem Trc.keep{w w':World}{B:Nat}{A:Option Addr}{t:List (List Int)}(h:Trc w B A t)(hk: ∀p:Addr,p.block<B->w'.cell? p=w.cell? p):Trc w' B A t:=fun hn=>by
 obtain⟨b,off,e,hb,hc⟩:=h hn;refine⟨b,off,e,hb,fun k x hx=> ?_⟩
 obtain⟨A1,c1,h1,h2,h3⟩:=hc k x hx;exact⟨A1,c1,(hk _ hb).trans h1,h2.keep hk,h3⟩
theorem Trc.more{w:World}{B B':Nat}{A:Option Addr}{t:List (List Int)}(h:Trc w B A t)(hB:B<=B'):Trc w B' A t:=fun hn=>by
 obtain⟨b,off,e,hb,hc⟩:=h hn;refine⟨b,off,e,by omega,fun k x hx=> ?_⟩
 obtain⟨A1,c1,h1,h2,h3⟩:=hc k x hx;exact⟨A1,c1,h1,h2.more hB,h3⟩
theorem Trc.below{w w':World}{B:Nat}{A:Option Addr}{t:List (List Int)}(h:Trc w B A t)(hb:Below B w w'):Trc w' B A t:=h.keep fun _ hp=>hb.cell hp
theorem Trc.take{w:World}{B:Nat}{A:Option Addr}{t:List (List Int)}(h:Trc w B A t)(i:Nat):Trc w B A (t.take i):=fun hn=>by
 have hl:(t.take i).length<=t.length:=by simp;omega
 obtain⟨b,off,e,hb,hc⟩:=h (by omega)
 refine⟨b,off,e,hb,fun k r hk=> ?_⟩
 rw[List.getElem?_take]at hk
 split at hk
 ·exact hc k r hk
 ·cases hk
structure IsS(w:World)(N:Option Addr)(nn nc:Nat)(T:Option Addr)(tn tc:Nat)(need:List Int)(t:List (List Int)):Prop where
 hn:need.length=nn
 ht:t.length=tn
 ln:nn<=400
 lt:tn<=400
 lr: ∀r∈t,r.length<=400
 ints:Ints w w.heap.size N need
 rows:Trc w w.heap.size T t
 hN:N=none->nn=0/\nc=0
 hT:T=none->tn=0/\tc=0
theorem IsS.below{w w':World}{N:Option Addr}{nn nc:Nat}{T:Option Addr}{tn tc:Nat}{need:List Int}{t:List (List Int)}(h:IsS w N nn nc T tn tc need t)(hb:Below w.heap.size w w'):IsS w' N nn nc T tn tc need t:=
 ⟨h.hn,h.ht,h.ln,h.lt,h.lr,(h.ints.below hb).more hb.size,(h.rows.below hb).more hb.size,h.hN,h.hT⟩
def upd(f:Nat->Int)(n:Nat)(z:Int):Nat->Int:=fun k=>if k=n then z else f k
theorem upd_at(f:Nat->Int)(n:Nat)(z:Int):upd f n z n=z:=if_pos rfl
theorem upd_not(f:Nat->Int){n k:Nat}(z:Int)(h:k≠n):upd f n z k=f k:=if_neg h
def pastV(ran lt lc:Nat->Int):List Value:=(List.range 64).map (fun n=>Value.int .i64 (ran n))++(List.range 128).map (fun j=>Value.int .i64 (if j%2=0 then lt (j/2)else lc (j/2)))
theorem pastV_length(ran lt lc:Nat->Int):(pastV ran lt lc).length=192:=by simp[pastV]
theorem pastV_lo{ran lt lc:Nat->Int}{n:Nat}(h:n<64):(pastV ran lt lc)[n]? =some (.int .i64 (ran n)):=by
 unfold pastV;rw[List.getElem?_append_left (by simpa using h),List.getElem?_map,List.getElem?_range h];rfl
theorem pastV_hi{ran lt lc:Nat->Int}{j:Nat}(h:j<128):(pastV ran lt lc)[64+j]? =some (.int .i64 (if j%2=0 then lt (j/2)else lc (j/2))):=by
 unfold pastV;rw[List.getElem?_append_right (by simp),List.length_map,List.length_range,Nat.add_sub_cancel_left,List.getElem?_map,List.getElem?_range h];rfl
theorem pastV_t{ran lt lc:Nat->Int}{n:Nat}(h:n<64):(pastV ran lt lc)[64+n * 2]? =some (.int .i64 (lt n)):=by
 rw[pastV_hi (by omega),if_pos (by omega),show n * 2/2=n by omega]
theorem pastV_c{ran lt lc:Nat->Int}{n:Nat}(h:n<64):(pastV ran lt lc)[64+n * 2+1]? =some (.int .i64 (lc n)):=by
 rw[show 64+n * 2+1=64+(n * 2+1) by omega,pastV_hi (by omega),if_neg (by omega),show(n * 2+1)/2=n by omega]
theorem pastV_ext{ran lt lc:Nat->Int}{l:List Value}(hl:l.length=192)(h1: ∀n,n<64->l[n]? =some (.int .i64 (ran n)))(h2: ∀n,n<64->l[64+n * 2]? =some (.int .i64 (lt n)))(h3: ∀n,n<64->l[64+n * 2+1]? =some (.int .i64 (lc n))):l=pastV ran lt lc:=by
 apply List.ext_getElem?
 intro i;rcases Nat.lt_or_ge i 64 with hi|hi
 ·rw[h1 i hi,pastV_lo hi]
 ·rcases Nat.lt_or_ge i 192 with hj | hj
  ·obtain ⟨k,hk | hk⟩: ∃ k,i = 64 + k * 2 \/ i = 64 + k * 2 + 1:=⟨(i - 64) / 2,by omega⟩
   ·rw[hk,h2 k (by omega),pastV_t (by omega)]
   ·rw[hk,h3 k (by omega),pastV_c (by omega)]
  ·rw[List.getElem?_eq_none (by omega),List.getElem?_eq_none (by rw[pastV_length];omega)]
theorem pastV_set_r(ran lt lc:Nat->Int){n:Nat}(h:n<64)(z:Int):(pastV ran lt lc).set n (.int .i64 z)=pastV (upd ran n z) lt lc:=by
 refine pastV_ext (by rw[List.length_set,pastV_length]) (fun k hk=> ?_) (fun k hk=> ?_) (fun k hk=> ?_)
 ·rw [List.getElem?_set]
  by_cases e:n=k
  ·rw[if_pos e,if_pos (by rw[pastV_length];omega),<-e,upd_at]
  ·rw[if_neg e,pastV_lo hk,upd_not _ _ (fun q=>e q.symm)]
 ·rw[List.getElem?_set,if_neg (by omega),pastV_t hk]
 ·rw[List.getElem?_set,if_neg (by omega),pastV_c hk]
theorem pastV_set_t(ran lt lc:Nat->Int){n:Nat}(h:n<64)(z:Int):(pastV ran lt lc).set (64+n * 2) (.int .i64 z)=pastV ran (upd lt n z) lc:=by
 refine pastV_ext (by rw[List.length_set,pastV_length]) (fun k hk=> ?_) (fun k hk=> ?_) (fun k hk=> ?_)
 ·rw[List.getElem?_set,if_neg (by omega),pastV_lo hk]
 ·rw [List.getElem?_set]
  by_cases e:n=k
  ·rw[if_pos (by omega),if_pos (by rw[pastV_length];omega),<-e,upd_at]
  ·rw[if_neg (by omega),pastV_t hk,upd_not _ _ (fun q=>e q.symm)]
 ·rw[List.getElem?_set,if_neg (by omega),pastV_c hk]
theorem pastV_set_c(ran lt lc:Nat->Int){n:Nat}(h:n<64)(z:Int):(pastV ran lt lc).set (64+n * 2+1) (.int .i64 z)=pastV ran lt (upd lc n z):=by
 refine pastV_ext (by rw[List.length_set,pastV_length]) (fun k hk=> ?_) (fun k hk=> ?_) (fun k hk=> ?_)
 ·rw[List.getElem?_set,if_neg (by omega),pastV_lo hk]
 ·rw[List.getElem?_set,if_neg (by omega),pastV_t hk]
 ·rw [List.getElem?_set]
  by_cases e:n=k
  ·rw[if_pos (by omega),if_pos (by rw[pastV_length];omega),<-e,upd_at]
  ·rw[if_neg (by omega),pastV_c hk,upd_not _ _ (fun q=>e q.symm)]
def Past(g:Nat)(ran lt lc:Nat->Int)(w:World):Prop:=RowV g 177 (pastV ran lt lc) w
section
variable {g: Nat} {ran lt lc: Nat -> Int} {w w': World}
theorem Past.lt_(h:Past g ran lt lc w):g<w.heap.size:=RowV.lt h
theorem Past.cells(h:Past g ran lt lc w){n:Nat}(hn:n<64):w.cell? ⟨g,n,none⟩=some (.int .i64 (ran n))/\w.cell? ⟨g,64+n * 2,none⟩=some (.int .i64 (lt n))/\w.cell? ⟨g,64+n * 2+1,none⟩=some (.int .i64 (lc n)):=
 ⟨RowV.cell h (pastV_lo hn),RowV.cell h (pastV_t hn),RowV.cell h (pastV_c hn)⟩
theorem Past.frozen(h:Past g ran lt lc w)(j:Nat):w.frozen? ⟨g,j,none⟩=false:=RowV.frozen h j
theorem Past.below(h:Past g ran lt lc w){B:Nat}(hb:Below B w w')(hB:g<B):Past g ran lt lc w':=RowV.below h hb hB
theorem Past.ran_(h:Past g ran lt lc w){n:Nat}(hn:n<64)(z:Int):Past g (upd ran n z) lt lc (w.setCell ⟨g,n,none⟩ (.int .i64 z)):=by
 unfold Past;rw[<-pastV_set_r _ _ _ hn];exact RowV.set h n _
theorem Past.place(h:Past g ran lt lc w){n:Nat}(hn:n<64)(a c:Int):Past g ran (upd lt n a) (upd lc n c) ((w.setCell ⟨g,64+n * 2,none⟩ (.int .i64 a)).setCell ⟨g,64+n * 2+1,none⟩ (.int .i64 c)):=by
 unfold Past;rw[<-pastV_set_c _ _ _ hn,<-pastV_set_t _ _ _ hn];exact RowV.set (RowV.set h _ _) _ _
end
structure Watch(gp gv gn:Nat)(N:Option Addr)(nn nc:Nat)(need:List Int)(ran lt lc:Nat->Int)(w:World):Prop where
 past:Past gp ran lt lc w
 v0:w.cell? ⟨gv,0,none⟩=some (.pointer (some ⟨gp,0,none⟩))
 n0:w.cell? ⟨gn,0,none⟩=some (.slice N nn nc)
 ints:Ints w gp N need
 hn:need.length=nn
 lv:gv<gp
 ln:gn<gp
section
variable {gp gv gn: Nat} {N: Option Addr} {nn nc: Nat} {need: List Int} {ran lt lc: Nat -> Int} {w w': World}
theorem Watch.below(h:Watch gp gv gn N nn nc need ran lt lc w)(hb:Below w.heap.size w w'):Watch gp gv gn N nn nc need ran lt lc w':=
 ⟨h.past.below hb h.past.lt_,(hb.cell (World.block_lt_of_cell? _ _ h.v0)).trans h.v0,(hb.cell (World.block_lt_of_cell? _ _ h.n0)).trans h.n0,h.ints.below (hb.mono (Nat.le_of_lt h.past.lt_)),h.hn,h.lv,h.ln⟩
theorem Watch.turned(h:Watch gp gv gn N nn nc need ran lt lc w){ran' lt' lc':Nat->Int}(hb:Below gp w w')(hp:Past gp ran' lt' lc' w'):Watch gp gv gn N nn nc need ran' lt' lc' w':=
 ⟨hp,(hb.cell h.lv).trans h.v0,(hb.cell h.ln).trans h.n0,h.ints.below hb,h.hn,h.lv,h.ln⟩
theorem done_any(n:Nat)(z:Int)(w:World)(h:Watch gp gv gn N nn nc need ran lt lc w)(hn:n<64)(hz:need[n]? =some z):
  Calls Tryz.prog 157 #[.int .i64 n,.pointer (some ⟨gv,0,none⟩),.pointer (some ⟨gn,0,none⟩)] w fun e w'=>e= .returned (.bool (decide (ran n=z)))/\Below w.heap.size w w':=by
 obtain⟨d1,_,_⟩:=h.past.cells hn;have d2:=h.v0;have d3:=h.n0;have hl:n<nn:=by
  have:=h.hn;rcases Nat.lt_or_ge n need.length with k|k
  ·omega
  ·rw[List.getElem?_eq_none k]at hz;cases hz
 obtain⟨bk,off,z',rfl,hbg,hzz,hc⟩:=h.ints.at_ (k:=n) (by rw[h.hn];exact hl)
 obtain rfl:z=z':=by rw[hz]at hzz;injection hzz
 obtain⟨r,hr⟩: ∃r,r=ran n:=⟨_,rfl⟩;rw[<-hr]at d1⊢;clear hr hz hzz h;go_enter Tryz.func157,Tryz.ntmps157;go_wp2
 go_quiet (fail)
 go_wp2;go_ret
 exact⟨by rw[show(r==z)=decide (r=z)from by simp[BEq.beq]];rfl,(below_drewN (Below.refl _ _) _)⟩
theorem watch_any(N:Option Addr)(nn nc:Nat)(need:List Int)(w:World)(hn:need.length=nn)(hI:Ints w w.heap.size N need):
  Calls Tryz.prog 144 #[.slice N nn nc] w fun e w'=> ∃gp gv gn,e= .returned (.tuple #[.pointer (some ⟨gp,0,none⟩),.func (.func 157) #[] #[.pointer (some ⟨gv,0,none⟩),.pointer (some ⟨gn,0,none⟩)]])/\
   Watch gp gv gn N nn nc need (fun _=>0) (fun _=>0) (fun _=>0) w'/\Below w.heap.size w w'/\w.heap.size<=gn/\w.heap.size<=gv/\w.heap.size<=gp:=by
 have HI:=Lib.hid hI;have HN:=Lib.hid hn;clear hI hn;go_enter Tryz.func144,Tryz.ntmps144;go_wp2;obtain⟨w1,hw1⟩: ∃w1,w1=(w.alloc (.cells #[.slice N nn nc] 22)).alloc (.cells #[.pointer (some ⟨w.heap.size+1+1,0,none⟩)] 169):=⟨_,rfl⟩;rw[<-hw1];have s1:w1.heap.size=w.heap.size+2:=by rw[hw1];simp
 have b1:Below w.heap.size w w1:=by rw[hw1];exact(below_alloc _).alloc (by simp) _
 have c0:w1.cell? ⟨w.heap.size,0,none⟩=some (.slice N nn nc):=by
  rw[hw1,World.cell?_alloc_lt _ _ _ (by simp),World.cell?_alloc_at _ _ _ _ rfl];rfl
 have c1:w1.cell? ⟨w.heap.size+1,0,none⟩=some (.pointer (some ⟨w.heap.size+1+1,0,none⟩)):=by
  rw[hw1,World.cell?_alloc_at _ _ _ _ (by simp)];rfl
 have hz:Tryz.zeroCells177=(pastV (fun _=>0) (fun _=>0) (fun _=>0)).toArray:=by rfl
 rw[hz];have hp:Past (w.heap.size+1+1) (fun _=>0) (fun _=>0) (fun _=>0) (w1.alloc (.cells (pastV (fun _=>0) (fun _=>0) (fun _=>0)).toArray 177)):=by
  have:=RowV.new w1 177 (pastV (fun _=>0) (fun _=>0) (fun _=>0))
  rw[s1]at this;exact this
 have b2:Below w1.heap.size w1 (w1.alloc (.cells (pastV (fun _=>0) (fun _=>0) (fun _=>0)).toArray 177)):=below_alloc _
 have d0:=(b2.cell (show(⟨w.heap.size,0,none⟩:Addr).block<_ by rw[s1];show w.heap.size<_;omega)).trans c0
 have d1:=(b2.cell (show(⟨w.heap.size+1,0,none⟩:Addr).block<_ by rw[s1];show w.heap.size+1<_;omega)).trans c1
 have hI:=((HI.out.below b1).below (b2.mono b1.size)).more (show w.heap.size<=w.heap.size+1+1 by omega)
 refine bodyPost_ret (v:=.tuple #[.pointer (some ⟨w.heap.size+1+1,0,none⟩),.func (.func 157) #[] #[.pointer (some ⟨w.heap.size+1,0,none⟩),.pointer (some ⟨w.heap.size,0,none⟩)]]) ?_ rfl
  ⟨w.heap.size+1+1,w.heap.size+1,w.heap.size,rfl,⟨hp,d1,d0,hI,HN.out,by omega,by omega⟩,b1.trans (b2.mono b1.size),by omega,by omega,by omega⟩
 rw[results_cell_tmp (p:=2) (u:=3) rfl];simp[go_sem,d1]
end
def doneB(need:List Int)(ran:Nat->Int)(x:Int):Bool:=decide (ran x.toNat=needT need x)
section
variable {gp gv gn: Nat} {N: Option Addr} {nn nc: Nat} {need: List Int} {ran lt lc: Nat -> Int} {w w': World}
theorem doneB_any(x:Int)(w:World)(h:Watch gp gv gn N nn nc need ran lt lc w)(h0:0<=x)(hx:x<need.length)(h64:nn<=64):
  Calls Tryz.prog 157 #[.int .i64 x,.pointer (some ⟨gv,0,none⟩),.pointer (some ⟨gn,0,none⟩)] w fun e w'=>e= .returned (.bool (doneB need ran x))/\Below w.heap.size w w':=by
 obtain⟨n,rfl⟩: ∃n:Nat,x=(n:Int):=⟨x.toNat,by omega⟩
 have hnl:n<need.length:=by omega
 have:=done_any n need[n] w h (by have:=h.hn;omega) (List.getElem?_eq_getElem hnl)
 unfold doneB needT;rw[Int.toNat_natCast,List.getD_eq_getElem?_getD,List.getElem?_eq_getElem hnl]
 exact this
theorem all_any(A:Option Addr)(c n:Nat)(l:List Int)(w:World)(hl:l.length=n)(hb:n<=1000)(hI:Ints w w.heap.size A l)(hx: ∀x∈l,0<=x/\x<need.length)(h64:nn<=64)(h:Watch gp gv gn N nn nc need ran lt lc w):
    Calls Tryz.prog 145 #[.slice A n c, .func (.func 157) #[] #[.pointer (some ⟨gv,0,none⟩), .pointer (some ⟨gn,0,none⟩)]] w fun e w'=>e= .returned (.bool (l.all (doneB need ran)))/\Below w.heap.size w w':=by
  have HI:=Lib.hid hI;have HN:=Lib.hid hl;have HX:=Lib.hid hx;have HW:=Lib.hid h;obtain⟨r,hr⟩: ∃r,r=l.all (doneB need ran):=⟨_,rfl⟩;rw[<-hr];have HR:=Lib.hid hr;clear hI hl hx h hr;go_enter Tryz.func145,Tryz.ntmps145;go_wp2;go_loopw [9] (fun v wr=> ∃k:Nat,k<=n/\v= .int .i64 k/\Hid (Below w.heap.size w wr)/\Hid (∀j x,j<k->l[j]? =some x->doneB need ran x=true)) (fun v _=>n - (intOf v).toNat)
  case atStart=>exact⟨0,Nat.zero_le _,rfl,Lib.hid (Below.refl _ _),Lib.hid (fun j x hj _=>absurd hj (Nat.not_lt_zero _))⟩
  case round=>
    obtain⟨k,hk,rfl,HB,HF⟩:=hrel
    by_cases hlt:k<n
    · obtain⟨bk,off,x,rfl,hbg,hek,hc⟩:=HI.out.at_ (k:=k) (by rw[HN.out];exact hlt)
      have hd:wr.cell? ⟨bk,off+k,none⟩=some (.int .i64 x):=(HB.out.cell hbg).trans hc
      have HEK:=Lib.hid hek;have hxx:=HX.out x (List.mem_of_getElem? hek)
      have hcall:=doneB_any x wr (HW.out.below HB.out) hxx.1 hxx.2 h64;have hbk:bk<wr.heap.size:=Nat.lt_of_lt_of_le hbg HB.out.size;clear hek hc hxx;cases hq:doneB need ran x with
      | true =>
        have HQ:=Lib.hid hq;rw[hq]at hcall;have C:=Lib.hid hcall;clear hq hcall
        go_wp2_with(go_at_call 157;refine C.out.mono ?_;rintro e w' ⟨rfl,hb'⟩;have HB':=Lib.hid hb';clear hb')
        go_roundw
        case rel=>exact⟨k+1,by omega,by go_num,Lib.hid (HB.out.trans (HB'.out.mono HB.out.size)),Lib.hid (fun j y hj hy=>by
          by_cases e:j=k
          · subst e;rw[HEK.out]at hy;injection hy with hy;rw[<-hy];exact HQ.out
          · exact HF.out j y (by omega) hy)⟩
        case measure=>simp[intOf];omega
      | false =>
        have HQ:=Lib.hid hq;rw[hq]at hcall;have C:=Lib.hid hcall;clear hq hcall;have hr:r=false:=by
          rw[HR.out,List.all_eq_false];exact⟨x,List.mem_of_getElem? HEK.out,by rw[HQ.out];decide⟩
        subst hr
        go_wp2_with(go_at_call 157;refine C.out.mono ?_;rintro e w' ⟨rfl,hb'⟩;have HB':=Lib.hid hb';clear hb')
        go_ret;exact⟨rfl,HB.out.trans (HB'.out.mono HB.out.size)⟩
    · have e:k=n:=by omega
      subst e;have hr:r=true:=by
        rw[HR.out,List.all_eq_true];intro x hx;obtain⟨j,hj,he⟩:=List.getElem_of_mem hx;exact HF.out j x (by rw[<-HN.out];exact hj) (by rw[List.getElem?_eq_getElem hj,he])
      subst hr;go_wp2;go_ret;exact⟨rfl,HB.out⟩
end
def addR(row:List Int)(ran:Nat->Int):Nat->Nat->Int
 |0=>ran
 |k+1=>if 0<=row.getD k (-1)then upd (addR row ran k) (row.getD k (-1)).toNat (addR row ran k (row.getD k (-1)).toNat+1)else addR row ran k
def addT(row:List Int)(f:Nat->Int)(v:Nat->Int):Nat->Nat->Int
 |0=>f
 |k+1=>if 0<=row.getD k (-1)then upd (addT row f v k) (row.getD k (-1)).toNat (v k)else addT row f v k
theorem addR_is(row:List Int)(ran:Nat->Int): ∀k,k<=row.length-> ∀n:Nat,addR row ran k n=ran n+((row.take k).count (n:Int):Nat)
  |0,_,n=>by simp[addR]
  | k + 1, hk, n => by
    have ih:=addR_is row ran k (by omega)
    rw[count_take_succ (by omega)]
    show(if 0<=row.getD k (-1)then upd (addR row ran k) (row.getD k (-1)).toNat (addR row ran k (row.getD k (-1)).toNat+1)else addR row ran k) n=_
    by_cases h:0<=row.getD k (-1)
    · rw[if_pos h]
      by_cases e:n=(row.getD k (-1)).toNat
      · rw[<-e,upd_at,ih n,if_pos (by omega)];omega
      · rw[upd_not _ _ e,ih n,if_neg (by omega)];omega
    · rw[if_neg h,ih n,if_neg (by omega)];omega
theorem addT_is(row:List Int)(f v:Nat->Int): ∀k,k<=row.length-> ∀n:Nat,((n:Int)∉row.take k/\addT row f v k n=f n)\/ ∃c,c<k/\row.getD c (-1)=(n:Int)/\addT row f v k n=v c
  |0,_,n=> .inl ⟨by simp,rfl⟩
  | k + 1, hk, n => by
    have ih:=addT_is row f v k (by omega) n
    have hm:(n:Int)∈row.take (k+1)↔(n:Int)∈row.take k\/row.getD k (-1)=(n:Int):=by
      have h1:k<row.length:=by omega
      rw[List.take_add_one,List.getElem?_eq_getElem h1,List.getD_eq_getElem?_getD,List.getElem?_eq_getElem h1,List.mem_append]
      simp[eq_comm]
    show((n:Int)∉row.take (k+1)/\(if 0<=row.getD k (-1)then upd (addT row f v k) (row.getD k (-1)).toNat (v k)else addT row f v k) n=f n)\/ ∃c,c<k+1/\row.getD c (-1)=(n:Int)/\(if 0<=row.getD k (-1)then upd (addT row f v k) (row.getD k (-1)).toNat (v k)else addT row f v k) n=v c
    by_cases h:0<=row.getD k (-1)
    · rw[if_pos h]
      by_cases e:n=(row.getD k (-1)).toNat
      · refine .inr ⟨k,by omega,by omega,?_⟩
        rw[<-e,upd_at]
      · rw[upd_not _ _ e];rcases ih with⟨h1,h2⟩|⟨c,h1,h2,h3⟩
        · refine .inl ⟨fun q=> ?_,h2⟩
          rcases hm.mp q with q|q
          · exact h1 q
          · omega
        · exact .inr ⟨c,by omega,h2,h3⟩
    · rw[if_neg h];rcases ih with⟨h1,h2⟩|⟨c,h1,h2,h3⟩
      · refine .inl ⟨fun q=> ?_,h2⟩
        rcases hm.mp q with q|q
        · exact h1 q
        · omega
      · exact .inr ⟨c,by omega,h2,h3⟩
section
variable {g: Nat} {ran lt lc: Nat -> Int}
theorem add_any(tick:Int)(A:Option Addr)(n c:Nat)(row:List Int)(w:World)(hn:row.length=n)(hl:n<=1000)(hI:Ints w g A row)(hx: ∀x∈row,x<64)(hr: ∀k,0<=ran k/\ran k<=1000000)(h:Past g ran lt lc w):
  Calls Tryz.prog 146 #[.pointer (some ⟨g,0,none⟩),.int .i64 tick,.slice A n c] w fun e w'=>e= .returned (.tuple #[])/\Past g (addR row ran n) (addT row lt (fun _=>tick) n) (addT row lc (fun k=>k) n) w'/\Below g w w':=by
 have HI:=Lib.hid hI;have HN:=Lib.hid hn;have HX:=Lib.hid hx;have HP:=Lib.hid h;have HR:=Lib.hid hr;clear hI hn hx h hr;go_enter Tryz.func146,Tryz.ntmps146;go_wp2;go_loopw [10] (fun v wr=> ∃k:Nat,k<=n/\v= .int .i64 k/\Hid (Past g (addR row ran k) (addT row lt (fun _=>tick) k) (addT row lc (fun k=>k) k) wr)/\Hid (Below g w wr)) (fun v _=>n - (intOf v).toNat)
 case atStart=>exact⟨0,Nat.zero_le _,rfl,HP,Lib.hid (Below.refl _ _)⟩
 case round=>
  obtain⟨k,hk,rfl,HK,HB⟩:=hrel
  by_cases hlt:k<n
  ·obtain ⟨bk,off,x,rfl,hbg,hek,hc⟩:=HI.out.at_ (k:=k) (by rw [HN.out]; exact hlt)
   have hd:wr.cell? ⟨bk,off+k,none⟩=some (.int .i64 x):=(HB.out.cell hbg).trans hc
   have hxx:=HX.out x (List.mem_of_getElem? hek)
   have HXK:=Lib.hid (show row.getD k (-1)=x by rw[List.getD_eq_getElem?_getD,hek];rfl)
   have hgl:=HK.out.lt_;have hbk:bk<wr.heap.size:=by omega
   clear hek hc
   by_cases h0:0<=x
   ·obtain ⟨m,rfl⟩: ∃ m: Nat,x = (m: Int):=⟨x.toNat,by omega⟩
    have hm:m<64:=by omega
    obtain⟨p1,p2,p3⟩:=HK.out.cells hm;have f1:=HK.out.frozen m;have f2:=HK.out.frozen (64+m * 2);have f3:=HK.out.frozen (64+m * 2+1);have hrm:=addR_is row ran k (by rw[HN.out];omega) m
    have hr0:=HR.out m;have hcl:(row.take k).count (m:Int)<=k:=Nat.le_trans (List.count_le_length) (by rw[List.length_take];omega)
    obtain⟨r,hrr⟩: ∃r,r=addR row ran k m:=⟨_,rfl⟩;rw[<-hrr]at p1 hrm;have HRR:=Lib.hid hrr;have hb1:0<=r:=by omega
    have hb2:r<=1001000:=by omega
    have HE1:Hid (addR row ran (k+1)=upd (addR row ran k) m (r+1)):=Lib.hid (by
     show(if 0<=row.getD k (-1)then _ else _)=_
     rw[HXK.out,if_pos h0,Int.toNat_natCast,<-HRR.out])
    have HE2:Hid (∀f v,addT row f v (k+1)=upd (addT row f v k) m (v k)):=Lib.hid (fun f v=>by
     show(if 0<=row.getD k (-1)then _ else _)=_
     rw[HXK.out,if_pos h0,Int.toNat_natCast])
    clear hrr hrm hr0 hcl hxx;go_wp2
    go_region
    go_wp2;go_roundw
    case rel=>exact⟨k+1,by omega,by go_num,Lib.hid (by
      rw[HE1.out,HE2.out,HE2.out];have h:=(HK.out.ran_ hm (r+1)).place hm tick k;exact h.below (Below.refl _ _).drew h.lt_),Lib.hid ((((HB.out.setCell (Nat.le_refl _) _).setCell (Nat.le_refl _) _).setCell (Nat.le_refl _) _).drew)⟩
    case measure=>simp[intOf];omega
   ·have hdf: decide (0 <= x) = false:=decide_eq_false h0
    have HE1:Hid (addR row ran (k+1)=addR row ran k):=Lib.hid (by
     show(if 0<=row.getD k (-1)then _ else _)=_
     rw[HXK.out,if_neg h0])
    have HE2:Hid (∀f v,addT row f v (k+1)=addT row f v k):=Lib.hid (fun f v=>by
     show(if 0<=row.getD k (-1)then _ else _)=_
     rw[HXK.out,if_neg h0])
    clear hxx h0;go_wp2;go_roundw
    case rel=>exact⟨k+1,by omega,by go_num,Lib.hid (by rw[HE1.out,HE2.out,HE2.out];exact HK.out),HB⟩
    case measure=>simp[intOf];omega
  ·obtain rfl: k = n:=by omega
   go_wp2;go_end0
   exact⟨rfl,HK.out,HB.out⟩
end
theorem idx_int(A:Option Addr)(c n:Nat)(es:List Int)(g:Nat)(lb:Array Value)(eg: ∀args w,(callFunc g args).run Tryz.prog w= .ok (.enter g args) w)(p:Nat->Bool)(I:Nat->World->Prop)(B:Nat)(hn:es.length=n)(hl:n<=1000)
    (hT: ∀k W,I k W->Ints W B A es)
    (hp: ∀k x W,es[k]? =some x->I k W->Calls Tryz.prog g (#[.int .i64 x]++lb) W fun e w'=>e= .returned (.bool (p k))/\I (k+1) w')
    (w:World) (h0:I 0 w):
    Calls Tryz.prog 63 #[.slice A n c, .func (.func g) #[] lb] w fun e w'=> ∃r k,e= .returned (.int .i64 r)/\I k w'/\(0<=r↔ ∃j,j<n/\p j=true):=by
  have HT:=Lib.hid hT;have HP:=Lib.hid hp;have HN:=Lib.hid hn;have H0:=Lib.hid h0;clear hT hp hn h0;go_enter Tryz.func63,Tryz.ntmps63;go_wp2;go_loopw [8] (fun v wr=> ∃k:Nat,k<=n/\v= .int .i64 k/\Hid (I k wr)/\Hid (∀j,j<k->p j=false)) (fun v _=>n - (intOf v).toNat)
  case atStart=>exact⟨0,Nat.zero_le _,rfl,H0,Lib.hid (fun j hj=>absurd hj (Nat.not_lt_zero _))⟩
  case round=>
    obtain⟨k,hk,rfl,HI,HF⟩:=hrel;clear H0
    by_cases hlt:k<n
    · obtain⟨bk,off,x,rfl,hbg,hek,d1⟩:=(HT.out k wr HI.out).at_ (k:=k) (by rw[HN.out];exact hlt)
      have HEK:=Lib.hid hek;have hcall:=HP.out k x wr hek HI.out;clear hek
      skip
      cases hq:p k with
      | true =>
        have HQ:=Lib.hid hq;rw[hq]at hcall;clear hq
        go_wp2_with(go_at_fn g;refine hcall.mono ?_;rintro e w' ⟨rfl,hb'⟩)
        go_ret;exact⟨_,k+1,rfl,hb',⟨fun _=>⟨k,hlt,HQ.out⟩,fun _=>by omega⟩⟩
      | false =>
        have HQ:=Lib.hid hq;rw[hq]at hcall;clear hq
        go_wp2_with(go_at_fn g;refine hcall.mono ?_;rintro e w' ⟨rfl,hb'⟩;have HB:=Lib.hid hb';clear hb')
        go_roundw
        case rel=>exact⟨k+1,by omega,by go_num,HB,Lib.hid (fun j hj=>by
          by_cases e:j=k
          · rw[e];exact HQ.out
          · exact HF.out j (by omega))⟩
        case measure=>simp[intOf];omega
    · have e:k=n:=by omega
      subst e;go_wp2;go_ret;exact⟨_,k,rfl,HI.out,⟨fun h=>absurd h (by decide),fun⟨j,hj,hpj⟩=>by rw[HF.out j hj]at hpj;cases hpj⟩⟩
theorem has_int(A:Option Addr)(c n:Nat)(es:List Int)(g:Nat)(lb:Array Value)(eg: ∀args w,(callFunc g args).run Tryz.prog w= .ok (.enter g args) w)(p:Nat->Bool)(I:Nat->World->Prop)(B:Nat)(hn:es.length=n)(hl:n<=1000)
    (hT: ∀k W,I k W->Ints W B A es)
    (hp: ∀k x W,es[k]? =some x->I k W->Calls Tryz.prog g (#[.int .i64 x]++lb) W fun e w'=>e= .returned (.bool (p k))/\I (k+1) w')
    (r:Bool) (hr:r=true↔ ∃j,j<n/\p j=true) (w:World) (h0:I 0 w):
    Calls Tryz.prog 32 #[.slice A n c, .func (.func g) #[] lb] w fun e w'=>e= .returned (.bool r)/\ ∃k,I k w':=by
  have C:=idx_int A c n es g lb eg p I B hn hl hT hp w h0;have HR:=Lib.hid hr;clear hT hp hn h0 hr;go_enter Tryz.func32,Tryz.ntmps32;go_wp2_with fail;refine C.mono ?_
  rintro e w1 ⟨v,k,rfl,hI,hv⟩;have HI:=Lib.hid hI;have HV:=Lib.hid hv;clear hI hv;cases r with
  | true =>
    have hg:0<=v:=HV.out.mpr (HR.out.mp rfl);go_wp2;go_ret;exact⟨rfl,k,HI.out⟩
  | false =>
    have hg:decide (0<=v)=false:=by
      rw[decide_eq_false_iff_not];exact fun h=>absurd (HR.out.mpr (HV.out.mp h)) (by simp)
    go_wp2;go_ret
    exact⟨rfl,k,HI.out⟩
theorem idx_row(A:Option Addr)(c n:Nat)(es:List (List Int))(g:Nat)(lb:Array Value)(eg: ∀args w,(callFunc g args).run Tryz.prog w= .ok (.enter g args) w)(p:Nat->Bool)(I:Nat->World->Prop)(B:Nat)(hn:es.length=n)(hl:n<=1000)
    (hT: ∀k W,I k W->Trc W B A es)
    (hp: ∀k xs A1 n1 c1 W,es[k]? =some xs->xs.length=n1->Ints W B A1 xs->((A1=none->n1=0/\c1=0)/\n1<=c1)->I k W->Calls Tryz.prog g (#[.slice A1 n1 c1]++lb) W fun e w'=>e= .returned (.bool (p k))/\I (k+1) w')
    (w:World) (h0:I 0 w):
    Calls Tryz.prog 155 #[.slice A n c, .func (.func g) #[] lb] w fun e w'=> ∃r k,e= .returned (.int .i64 r)/\I k w'/\(0<=r↔ ∃j,j<n/\p j=true):=by
  have HT:=Lib.hid hT;have HP:=Lib.hid hp;have HN:=Lib.hid hn;have H0:=Lib.hid h0;clear hT hp hn h0;go_enter Tryz.func155,Tryz.ntmps155;go_wp2;go_loopw [8] (fun v wr=> ∃k:Nat,k<=n/\v= .int .i64 k/\Hid (I k wr)/\Hid (∀j,j<k->p j=false)) (fun v _=>n - (intOf v).toNat)
  case atStart=>exact⟨0,Nat.zero_le _,rfl,H0,Lib.hid (fun j hj=>absurd hj (Nat.not_lt_zero _))⟩
  case round=>
    obtain⟨k,hk,rfl,HI,HF⟩:=hrel;clear H0
    by_cases hlt:k<n
    · obtain⟨bk,off,xs,A1,n1,c1,rfl,hbg,hek,hn1,d1,hxs,hz1⟩:=(HT.out k wr HI.out).at_ (k:=k) (by rw[HN.out];exact hlt)
      have HEK:=Lib.hid hek;have hcall:=HP.out k xs A1 n1 c1 wr hek hn1 hxs hz1 HI.out;clear hek hn1 hxs hz1
      skip
      cases hq:p k with
      | true =>
        have HQ:=Lib.hid hq;rw[hq]at hcall;clear hq
        go_wp2_with(go_at_fn g;refine hcall.mono ?_;rintro e w' ⟨rfl,hb'⟩)
        go_ret;exact⟨_,k+1,rfl,hb',⟨fun _=>⟨k,hlt,HQ.out⟩,fun _=>by omega⟩⟩
      | false =>
        have HQ:=Lib.hid hq;rw[hq]at hcall;clear hq
        go_wp2_with(go_at_fn g;refine hcall.mono ?_;rintro e w' ⟨rfl,hb'⟩;have HB:=Lib.hid hb';clear hb')
        go_roundw
        case rel=>exact⟨k+1,by omega,by go_num,HB,Lib.hid (fun j hj=>by
          by_cases e:j=k
          · rw[e];exact HQ.out
          · exact HF.out j (by omega))⟩
        case measure=>simp[intOf];omega
    · have e:k=n:=by omega
      subst e;go_wp2;go_ret;exact⟨_,k,rfl,HI.out,⟨fun h=>absurd h (by decide),fun⟨j,hj,hpj⟩=>by rw[HF.out j hj]at hpj;cases hpj⟩⟩
theorem has_row(A:Option Addr)(c n:Nat)(es:List (List Int))(g:Nat)(lb:Array Value)(eg: ∀args w,(callFunc g args).run Tryz.prog w= .ok (.enter g args) w)(p:Nat->Bool)(I:Nat->World->Prop)(B:Nat)(hn:es.length=n)(hl:n<=1000)
    (hT: ∀k W,I k W->Trc W B A es)
    (hp: ∀k xs A1 n1 c1 W,es[k]? =some xs->xs.length=n1->Ints W B A1 xs->((A1=none->n1=0/\c1=0)/\n1<=c1)->I k W->Calls Tryz.prog g (#[.slice A1 n1 c1]++lb) W fun e w'=>e= .returned (.bool (p k))/\I (k+1) w')
    (r:Bool) (hr:r=true↔ ∃j,j<n/\p j=true) (w:World) (h0:I 0 w):
    Calls Tryz.prog 142 #[.slice A n c, .func (.func g) #[] lb] w fun e w'=>e= .returned (.bool r)/\ ∃k,I k w':=by
  have C:=idx_row A c n es g lb eg p I B hn hl hT hp w h0;have HR:=Lib.hid hr;clear hT hp hn h0 hr;go_enter Tryz.func142,Tryz.ntmps142;go_wp2_with fail;refine C.mono ?_
  rintro e w1 ⟨v,k,rfl,hI,hv⟩;have HI:=Lib.hid hI;have HV:=Lib.hid hv;clear hI hv;cases r with
  | true =>
    have hg:0<=v:=HV.out.mpr (HR.out.mp rfl);go_wp2;go_ret;exact⟨rfl,k,HI.out⟩
  | false =>
    have hg:decide (0<=v)=false:=by
      rw[decide_eq_false_iff_not];exact fun h=>absurd (HR.out.mpr (HV.out.mp h)) (by simp)
    go_wp2;go_ret
    exact⟨rfl,k,HI.out⟩
theorem index_any(A:Option Addr)(c n:Nat)(zs:List Int)(x:Int)(B:Nat)(w:World)(hn:zs.length=n)(hl:n<=1000)(hI:Ints w B A zs):
  Calls Tryz.prog 101 #[.slice A n c,.int .i64 x] w fun e w'=> ∃r,e= .returned (.int .i64 r)/\(0<=r↔x∈zs)/\w'=w:=by
 have HI:=Lib.hid hI;have HN:=Lib.hid hn;clear hn hI;go_enter Tryz.func101,Tryz.ntmps101;go_wp2;go_loop [8] (fun v=> ∃k:Nat,k<=n/\v= .int .i64 k/\Hid (x∉zs.take k)) (fun v=>n - (intOf v).toNat)
 case atStart=>exact⟨0,Nat.zero_le _,rfl,Lib.hid (by simp)⟩
 case round=>
  obtain⟨k,hk,rfl,HF⟩:=hrel
  by_cases hlt:k<n
  ·obtain ⟨bk,off,z,rfl,hbg,hek,d1⟩:=HI.out.at_ (k:=k) (by rw [HN.out]; exact hlt)
   have HEK:=Lib.hid hek;clear hek
   by_cases hq:x=z
   ·subst hq
    go_wp2;go_ret
    exact⟨_,rfl,⟨fun _=>List.mem_of_getElem? HEK.out,fun _=>by omega⟩,rfl⟩
   ·have hqf: (x == z) = false:=by simpa using hq
    have HQ:=Lib.hid hq;clear hq;go_wp2;go_round
    case rel=>exact⟨k+1,by omega,by go_num,Lib.hid (fun hm=>by
     rw[take_snoc' HEK.out,List.mem_append,List.mem_singleton]at hm;rcases hm with hm|hm
     ·exact HF.out hm
     ·exact HQ.out hm)⟩
    case measure=>simp[intOf];omega
  ·have e: k = n:=by omega
   subst e;have HT:=HF.out;rw[List.take_of_length_le (by rw[HN.out];omega)]at HT
   have HT':=Lib.hid HT;clear HT;go_wp2;go_ret;exact⟨_,rfl,⟨fun h=>absurd h (by decide),fun h=>absurd h HT'.out⟩,rfl⟩
theorem contains_any(A:Option Addr)(c n:Nat)(zs:List Int)(x:Int)(B:Nat)(w:World)(hn:zs.length=n)(hl:n<=1000)(hI:Ints w B A zs):
  Calls Tryz.prog 66 #[.slice A n c,.int .i64 x] w fun e w'=>e= .returned (.bool (decide (x∈zs)))/\w'=w:=by
 have C:=Lib.hid (index_any A c n zs x B w hn hl hI);obtain⟨b,hb⟩: ∃b,b=decide (x∈zs):=⟨_,rfl⟩;rw[<-hb];have HBB:=Lib.hid hb;clear hn hI hb;go_enter Tryz.func66,Tryz.ntmps66;go_wp2_with fail;refine C.out.mono ?_
 rintro e w1 ⟨r,rfl,hr,rfl⟩;have HR:=Lib.hid hr;clear hr
 by_cases h:0<=r
 ·obtain rfl: b = true:=HBB.out.trans (decide_eq_true (HR.out.mp h))
  go_wp2;go_ret
  exact⟨rfl,rfl⟩
 ·obtain rfl: b = false:=HBB.out.trans (decide_eq_false (fun q => h (HR.out.mpr q)))
  have hg:decide (0<=r)=false:=decide_eq_false h;clear h;go_wp2;go_ret;exact⟨rfl,rfl⟩
end Go.Proofs.YtngdbbligebcbabGreatDoor
namespace Go.Proofs.YtngdbbligebcbabGreatDoor
open Go Go.RowKit
theorem eg_of{f:Nat}{fn:Func}{c:Code}(hf:Tryz.prog.funcs[f]? =some fn)(hname:(fn.name== "runtime.NumGoroutine")=false)(hb:fn.body=some c): ∀args w,(callFunc f args).run Tryz.prog w= .ok (.enter f args) w:=enters_of hf hname hb
end Go.Proofs.YtngdbbligebcbabGreatDoor
namespace Go.Proofs.YtngdbbligebcbabGreatDoor
open Go.RowKit
def bitsL(s:Nat):List Nat:=(List.range 64).filter s.testBit
theorem bitsL_zero:bitsL 0= []:=by decide
theorem bitsL_length(s:Nat):(bitsL s).length<=64:=by
 unfold bitsL;have:=List.length_filter_le s.testBit (List.range 64)
 rwa [List.length_range]at this
theorem filt_first(p q:Nat->Bool)(k:Nat)(hk:p k=true)(hlt: ∀j,j<k->p j=false)(hq: ∀j,q j=(p j&&decide (j≠k))): ∀n,k<n->(List.range n).filter p=k::(List.range n).filter q
  |0,h=>by omega
  | n + 1, h => by
    rw[List.range_succ,List.filter_append,List.filter_append];rcases Nat.lt_or_ge k n with h1|h1
    · rw[filt_first p q k hk hlt hq n h1];have e:q n=p n:=by rw[hq,decide_eq_true (by omega:n≠k),Bool.and_true]
      simp[List.filter,e]
    · obtain rfl:n=k:=by omega
      have e1:(List.range n).filter p= []:=List.filter_eq_nil_iff.mpr fun j hj=>by rw[hlt j (List.mem_range.mp hj)];exact Bool.false_ne_true
      have e2:(List.range n).filter q= []:=List.filter_eq_nil_iff.mpr fun j hj=>by rw[hq,hlt j (List.mem_range.mp hj)];exact Bool.false_ne_true
      have e3:q n=false:=by rw[hq];simp
      rw[e1,e2];simp[List.filter,hk,e3]
theorem low_bit(k m j:Nat):(2^k * (2 * m+1)).testBit j=(decide (k<=j)&&(decide (j=k)||m.testBit (j - k - 1))):=by
 rw[Nat.mul_comm,Nat.testBit_mul_two_pow]
 by_cases h:k<=j
 ·by_cases he: j = k
  ·subst he
   simp[Nat.testBit_zero]
  ·obtain ⟨i,rfl⟩: ∃ i,j = k + (i + 1):=⟨j - k - 1,by omega⟩
   have e1:k+(i+1) - k=i+1:=by omega
   have e2:(2 * m+1)/2=m:=by omega
   rw[e1,Nat.testBit_succ,e2];simp
 ·simp[h]
theorem low_less(k m j:Nat):(2^k * (2 * m+1) - 1).testBit j=(decide (j<k)||(decide (k<j)&&m.testBit (j - k - 1))):=by
 have hp:0<2^k:=Nat.two_pow_pos k;have e:2^k * (2 * m+1) - 1=2^k * (2 * m)+(2^k - 1):=by rw[Nat.mul_add];omega
 rw[e,Nat.testBit_two_pow_mul_add _ (by omega)]
 by_cases h:j<k
 ·rw [if_pos h,Nat.testBit_two_pow_sub_one]
  simp[h]
 ·rw [if_neg h]
  by_cases he:j=k
  ·subst he
   simp[Nat.testBit_zero]
  ·obtain ⟨i,rfl⟩: ∃ i,j = k + (i + 1):=⟨j - k - 1,by omega⟩
   have e1:k+(i+1) - k=i+1:=by omega
   have e2:(2 * m)/2=m:=by omega
   rw[e1,Nat.testBit_succ,e2];have h3:k<k+(i+1):=by omega
   simp[h,h3]
theorem bitsL_step{s:Nat}(h0:s≠0)(hs:s<18446744073709551616):bitsL s=Lib.ctz 64 s::bitsL (s &&& (s - 1)):=by
 obtain⟨m,hm,hk⟩:=Lib.ctzFrom_spec 64 s (by omega) hs
 have hc:Lib.ctz 64 s=Lib.ctzFrom 64 s:=by unfold Lib.ctz;rw[if_neg h0]
 rw[hc];obtain⟨k,hk2⟩: ∃k,k=Lib.ctzFrom 64 s:=⟨_,rfl⟩;rw[<-hk2]at hm hk⊢;clear hk2 hc;unfold bitsL;refine filt_first _ _ k ?_ ?_ ?_ 64 hk
 ·rw[hm,low_bit];simp
 ·intro j hj
  rw[hm,low_bit];simp[show¬k<=j by omega]
 ·intro j
  rw[Nat.testBit_and,hm,low_bit,low_less]
  by_cases h1:j<k
  ·simp[h1,show¬k<=j by omega]
  ·by_cases h2: j = k
   ·subst h2
    simp
   ·have h3: k < j:=by omega
    have h4:k<=j:=by omega
    simp[h1,h2,h3,h4]
theorem and_pred_lt{s:Nat}(h0:s≠0):s &&& (s - 1)<s:=Nat.lt_of_le_of_lt Nat.and_le_right (by omega)
theorem or_bit_testBit(s n j:Nat):(s ||| 2^n).testBit j=(s.testBit j||decide (n=j)):=by
 rw[Nat.testBit_or,Nat.testBit_two_pow]
theorem set_has_core(s n p q r:Nat)(b:Bool)(w:World)(hn:n<64)(hp:(2:Int)^n=(p:Int))(hq:(s:Int)/(p:Int)=(q:Int))(ha:bits .and .u64 (q:Int) 1=(r:Int))(hb:((r:Int)==1)=b):
  Calls Tryz.prog 103 #[.int .u64 s,.int .i64 n] w fun e w'=>e= .returned (.bool b)/\w=w':=by
 go_enter Tryz.func103,Tryz.ntmps103;go_wp2;go_ret;exact⟨rfl,rfl⟩
theorem set_has(s n:Nat)(w:World)(hs:s<18446744073709551616)(hn:n<64):
  Calls Tryz.prog 103 #[.int .u64 s,.int .i64 n] w fun e w'=>e= .returned (.bool (s.testBit n))/\w=w':=by
 have h1:s/2^n<=s:=Nat.div_le_self _ _;refine set_has_core s n (2^n) (s/2^n) (s/2^n%2) (s.testBit n) w hn (by push_cast;rfl) (by push_cast;rfl) ?_ ?_
 ·have h2:=bits_and_u64_nat (s / 2 ^ n) 1 (by omega) (by decide)
  rw[Nat.and_one_is_mod]at h2;exact h2
 ·rw [Nat.testBit_eq_decide_div_mod_eq]
  rcases Nat.mod_two_eq_zero_or_one (s/2^n)with h|h<;>rw[h]<;>rfl
theorem set_with_core(s n p r:Nat)(w:World)(hn:n<64)(hp:(2:Int)^n=(p:Int))(hw:IntKind.u64.wrap (p:Int)=(p:Int))(ha:bits .or .u64 (s:Int) (p:Int)=(r:Int)):
  Calls Tryz.prog 104 #[.int .u64 s,.int .i64 n] w fun e w'=>e= .returned (.int .u64 r)/\w=w':=by
 go_enter Tryz.func104,Tryz.ntmps104;go_wp2;go_ret;exact⟨rfl,rfl⟩
theorem set_with(s n:Nat)(w:World)(hs:s<18446744073709551616)(hn:n<64):
  Calls Tryz.prog 104 #[.int .u64 s,.int .i64 n] w fun e w'=>e= .returned (.int .u64 (s ||| 2^n:Nat))/\w=w':=by
 have h1:2^n<18446744073709551616:=Nat.pow_lt_pow_right (by decide) hn
 refine set_with_core s n (2^n) (s ||| 2^n) w hn (by push_cast;rfl) ?_ (bits_or_u64_nat s (2^n) hs h1)
 obtain⟨p,hp⟩: ∃p,p=2^n:=⟨_,rfl⟩;rw[<-hp]at h1⊢;rw[IntKind.wrap_u64];omega
theorem is_node(x:Int)(n:Nat)(w:World)(hn:n<=1000):
  Calls Tryz.prog 102 #[.int .i64 x,.int .i64 n] w fun e w'=>e= .returned (.bool (decide (0<=x/\x<n)))/\w=w':=by
 by_cases h0:0<=x
 ·by_cases h1: x < n
  ·rw [decide_eq_true (⟨h0,h1⟩: 0 <= x /\ x < n)]
   go_enter Tryz.func102,Tryz.ntmps102;go_wp2;go_ret;exact⟨rfl,rfl⟩
  ·rw [decide_eq_false (fun h => h1 h.2: ¬ (0 <= x /\ x < n))]
   go_enter Tryz.func102,Tryz.ntmps102;go_wp2;go_ret;exact⟨rfl,rfl⟩
 ·rw [decide_eq_false (fun h => h0 h.1: ¬ (0 <= x /\ x < n))]
  go_enter Tryz.func102,Tryz.ntmps102;go_wp2;go_ret;exact⟨rfl,rfl⟩
theorem ownI_nil(w:World)(base:Nat):OwnI w base (.slice none 0 0) []:=⟨rfl,.inl ⟨rfl,rfl⟩⟩
theorem set_row(s:Nat)(w:World)(hs:s<18446744073709551616)(hT:Tab64 w):
  Calls Tryz.prog 105 #[.int .u64 s] w (GotInts (nums (bitsL s)) w):=by
 have HS:=Lib.hid hs;have HT:=Lib.hid hT;have HLEN:=Lib.hid (bitsL_length s);clear hs hT;go_enter Tryz.func105,Tryz.ntmps105;go_wp2;go_loopw [0,3] (fun sv v wr=> ∃(t k:Nat) (A:Option Addr) (c:Nat) (l:List Nat),sv= .int .u64 t/\t<18446744073709551616/\k<=64/\v= .slice A k c/\Hid (l.length=k)/\Hid (l++bitsL t=bitsL s)/\Hid (OwnI wr w.heap.size (.slice A k c) (nums l))/\Hid (Below w.heap.size w wr)) (fun sv _ _=>(intOf sv).toNat)
 case atStart=>exact⟨s,0,none,0,[],rfl,HS.out,by omega,rfl,Lib.hid rfl,Lib.hid rfl,Lib.hid (ownI_nil _ _),Lib.hid (Below.refl _ _)⟩
 case round=>
  obtain⟨t,k,A,c,l,rfl,ht,hk,rfl,HL,HE,HO,HB⟩:=hrel
  by_cases h0:t=0
  ·subst h0
   have he:l=bitsL s:=by have:=HE.out;rwa [bitsL_zero,List.append_nil]at this
   have HE2:=Lib.hid he;clear he;go_wp2;go_ret;obtain⟨A2,c2,h1,h2⟩:=HO.out.slice;exact⟨A2,c2,by rw[<-HE2.out,<-h1];rfl,by rw[<-HE2.out];exact h2,HB.out⟩
  ·have HST:=Lib.hid (bitsL_step h0 ht)
   have hne:((t:Int) !=0)=true:=by simpa using h0
   have C:=Lib.hid (tz64_any t wr ht h0 (HT.out.via HB.out));have hsub:IntKind.u64.wrap ((t:Int) - 1)=((t - 1:Nat):Int):=by rw[IntKind.wrap_u64];omega
   have hand:=bits_and_u64_nat t (t - 1) ht (by omega)
   have hlt:=and_pred_lt h0;obtain⟨z,hz⟩: ∃z,z=t &&& (t - 1):=⟨_,rfl⟩;obtain⟨y,hy⟩: ∃y,y=Lib.ctz 64 t:=⟨_,rfl⟩;rw[<-hz]at hand hlt HST;rw[<-hy]at C HST;have hk2:k<64:=by
    have h1:=HE.out;rw[HST.out]at h1;have h2:=congrArg List.length h1;rw[List.length_append,HL.out]at h2;simp only[List.length_cons]at h2;have:=HLEN.out;omega
   have hsz:=HB.out.size;clear hz hy h0
   go_wp2_with(first
    |(go_at_call 130;refine C.out.mono ?_;rintro e w' ⟨rfl,rfl⟩)
    |(at_builtin;refine wpList_push rfl _ _ rfl wr w.heap.size _ (nums l) (y:Int) k (by rw[nums_length];exact HL.out) (by omega) HO.out hsz rfl rfl ?_;intro A4 c4 w4 HO4 HB4;(have HO4':=Lib.hid HO4);(have HB4':=Lib.hid HB4);clear HO4 HB4))
   go_roundw
   case rel=>exact⟨z,k+1,A4,c4,l++ [y],rfl,by omega,by omega,rfl,Lib.hid (by rw[List.length_append,HL.out];rfl),Lib.hid (by rw[List.append_assoc];exact(by rw[<-HST.out];exact HE.out:l++(y::bitsL z)=bitsL s)),Lib.hid (by rw[nums_snoc];exact HO4'.out),Lib.hid (HB.out.trans HB4'.out)⟩
   case measure=>simp[intOf];omega
end Go.Proofs.YtngdbbligebcbabGreatDoor
