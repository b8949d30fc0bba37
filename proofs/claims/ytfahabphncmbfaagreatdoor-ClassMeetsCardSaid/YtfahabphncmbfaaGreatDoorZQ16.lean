import Derived.Test.YtfahabphncmbfaaGreatDoorZQ15
set_option linter.all false
set_option maxRecDepth 100000
set_option maxHeartbeats 8000000
namespace Go.Proofs.YtfahabphncmbfaaGreatDoor
open Go.RowKit
open _root_.Array renaming replicate→Yt
open Go.RowKit.Below renaming refl→Zl
open Bool renaming and_eq_true→Z5,false_ne_true→Yp
open Go.Lib renaming hid→Zf
open List renaming filter_cons→Yf,getD_eq_getElem?_getD→Zi,getElem?_eq_getElem→Zh,getElem?_map→ZO,getElem_mem→Zz,length_append→Zq,length_cons→Ya,length_map→ZH,length_range→Yo,length_set→ZU,map_cons→ZM,map_nil→Yd,mem_map→YG,mem_of_getElem?→ZC,mem_range→ZD,range→Zo,replicate→Zj,sum_cons→ZY,take_of_length_le→Z6
open Nat renaming le_refl→Zm,zero_le→Zu
open Go.Proofs.Tryz renaming prog→Zg
open Go.World renaming block_lt_of_cell?→Zw,cell?_alloc_at→Zp
open Go renaming bodyPost_ret→Yal,cell_of_row→Yaf,frozen_of_row→Yaj,heap_alloc_new→Yak,heap_setCell_other→Yah,heap_setCell_same→Yai,results_cell_tmp→Yam
open Go.Proofs.Tryz
theorem Zjr{n T:Nat}{E:List (Int×Int)}(hn:n<=64)(hF:Fits n E){y:Nat}(h:∀a,T.testBit a=(decide (a<n)&&decide (ed E y a))):Zd9 n E y=nums (Zby T):=by rw[ZkZ hn h (fun a ha=>by rw[Z5,decide_eq_true_iff]at ha;exact ha.1)];unfold Zd9;apply List.filter_congr;intro a ha;obtain⟨b,hb,rfl⟩:=YG.mp ha;have hb2:=ZD.mp hb;show decide _=(decide (b<n)&&decide (ed E y b));rw[Ze hb2,Bool.true_and];rfl
theorem Zm1{T y j:Nat}{E:List (Int×Int)}(h:∀a,T.testBit a=(decide (a<j)&&decide (ed E y a)))(he:ed E y j)(a:Nat):(T ||| 2^j).testBit a=(decide (a<j+1)&&decide (ed E y a)):=by
 rw[ZcC,h,Bool.eq_iff_iff];simp only[Bool.or_eq_true,Z5,decide_eq_true_iff];constructor
 ·rintro (⟨k1,k2⟩ | k)
  ·exact⟨by omega,k2⟩
  ·exact⟨by omega,k▸he⟩
 ·rintro ⟨k1,k2⟩
  by_cases hj:j=a
  ·exact .inr hj
  ·exact .inl ⟨by omega,k2⟩
theorem Zm2{T y j:Nat}{E:List (Int×Int)}(h:∀a,T.testBit a=(decide (a<j)&&decide (ed E y a)))(he:¬ed E y j)(a:Nat):T.testBit a=(decide (a<j+1)&&decide (ed E y a)):=by
 rw[h,Bool.eq_iff_iff];simp only[Z5,decide_eq_true_iff];constructor
 ·rintro ⟨k1,k2⟩
  exact⟨by omega,k2⟩
 ·rintro ⟨k1,k2⟩
  by_cases hj:j=a
  ·exact absurd (hj▸k2) he
  ·exact⟨by omega,k2⟩
section
variable {A: Option Addr}{n c: Nat}{F: Option Addr}{m d: Nat}{W: List Int}{E: List (Int × Int)}
end
theorem ZkV{l:List Nat}{j:Nat}{z:Int}(h:(nums l)[j]?=some z):∃x:Nat,z=(x:Int)/\l[j]?=some x:=by
  unfold nums at h;rw[ZO]at h
  cases hx:l[j]? with
  |none=>rw[hx]at h;cases h
  | some x =>rw[hx]at h;exact⟨x,(Option.some.inj h).symm,rfl⟩
def ZsX(E:List (Int×Int))(a:Nat)(met:List Nat)(T:Nat):Prop:=∀ x,T.testBit x=true↔x∈met/\Way E a x
section
variable {A: Option Addr}{n c: Nat}{F: Option Addr}{m d: Nat}{W: List Int}{E: List (Int × Int)}
end
def Zhx(l:List Int):List Value:=l.map (Value.int .i64)
theorem Zhy{l:List Int}{j:Nat}(h:j<l.length):(Zhx l)[j]?=some (.int .i64 (l.getD j 0)):=by unfold Zhx;rw[ZO,Zh h,Zi,Zh h];rfl
theorem Zm3(l:List Int)(j:Nat)(z:Int):Zhx (l.set j z)=(Zhx l).set j (.int .i64 z):=by unfold Zhx;rw[List.map_set]
theorem Zm4(n:Nat)(hn:n<=1000)(W:World):(Instr.makeSlice 22 (.int .i64 n) (.int .i64 n)).run Zg W=.ok (.slice (some ⟨W.heap.size,0,none⟩) n n) (W.alloc (.cells (Zj n (Value.int .i64 0)).toArray 3)):=by
 obtain⟨i0,hi,hz0,hz1,hz2⟩:=info_parts Zbj;have h:=run_make (P:=Zg) W 22 3 i0 (.int .i64 0) underlying22 hi hz0 .i64 .i64 n n (by omega) (by omega) (by rw[hz2];omega) (by omega);rw[hz1]at h;have e:madeCells (Value.int .i64 0).cells (((n:Int)).toNat * 1)=(Zj n (Value.int .i64 0)).toArray:=by apply Array.toList_inj.mp;rw[show(Value.int .i64 0).cells= #[Value.int .i64 0]from rfl,toList_madeCells_one];simp
 rw[e]at h;exact h
theorem Zdd(l:List Int):0<=most l/\(∀x∈l,x<=most l)/\(most l=0\/most l∈l):=ZfZ l 0
theorem ZkW{l l':List Int}(h:∀x∈l,x∈l'):most l<=most l':=by
 rcases(Zdd l).2.2 with k|k
 ·rw[k];exact(Zdd l').1
 ·exact(Zdd l').2.1 _ (h _ k)
theorem Zm5{l l':List Int}(h:∀x,x∈l↔x∈l'):most l=most l':=Int.le_antisymm (ZkW fun x hx=>(h x).mp hx) (ZkW fun x hx=>(h x).mpr hx)
def Zb3(W:List Int)(E:List (Int×Int))(x:Nat):Int:=(farK W E W.length).getD x 0
theorem Zpf{W:List Int}{E:List (Int×Int)}(hF:Fits W.length E)(hA:Acyc E){x:Nat}(hx:x<W.length){l:List Nat}(hl:∀a,a∈l↔ed E a x):
    Zb3 W E x=most (l.map (Zb3 W E))+W.getD x 0:=by
  obtain⟨m0,m1,m2⟩:=Zdd (l.map (Zb3 W E));have hS:=ZdE hF W.length;apply Int.le_antisymm
  · obtain⟨r,h1,h2,h3⟩:=hS.2 x hx;have e:Zb3 W E x=wsum W (x::r):=h3.symm;rw[e];cases r with
    | nil =>simp only[wsum,ZM,Yd,ZY,List.sum_nil];omega
    | cons a r =>have hn:=Zbe W.length (x::a::r) (h1.nodup hA) h2;simp only[Ya]at hn;have h4:wsum W (a::r)<=Zb3 W E a:=Zcb hF W.length a r h1.2 (by omega);have h5:=m1 (Zb3 W E a) (YG.mpr ⟨a,(hl a).mpr h1.1,rfl⟩);simp only[wsum,ZM,ZY]at h4⊢;omega
  · rcases m2 with k|k
    · have h4:=Zcb (W:=W) hF W.length x [] trivial (by simp);simp only[wsum,ZM,Yd,ZY,List.sum_nil]at h4;show _<=(farK W E W.length).getD x 0;omega
    · obtain⟨a,ha,he⟩:=YG.mp k;have hed:=(hl a).mp ha;obtain⟨r,h1,h2,h3⟩:=hS.2 a (Zf4 hF hed).1;have hup:Up E (x::a::r):=⟨hed,h1⟩;have hin:In W.length (x::a::r):=fun y hy=>by
        rcases List.mem_cons.mp hy with rfl|hy
        · exact hx
        · exact h2 y hy
      have hn:=Zbe W.length (x::a::r) (hup.nodup hA) hin;simp only[Ya]at hn;have h4:=Zcb (W:=W) hF W.length x (a::r) hup (by simp;omega);rw[<-he];show(farK W E W.length).getD a 0+_<=(farK W E W.length).getD x 0;rw[<-h3];simp only[wsum,ZM,ZY]at h4⊢;omega
theorem Zm6{W:List Int}{E:List (Int×Int)}(hF:Fits W.length E)(hA:Acyc E)(hW:ZbG W){x:Nat}(hx:x<W.length):0<=Zb3 W E x/\Zb3 W E x<=1000 * W.length:=by have:=Zse hF hA hW W.length 0 x hx;exact this
theorem ZlL{W:List Int}{E:List (Int×Int)}{out:List Nat}(h:∀x,x∈out↔x<W.length):most (out.map (Zb3 W E))=most (farK W E W.length):=by
 apply Zm5;intro z;constructor
 ·intro hz
  obtain⟨x,hx,rfl⟩:=YG.mp hz;have hl:x<(farK W E W.length).length:=by rw[ZbO];exact(h x).mp hx
  unfold Zb3;rw[Zi,Zh hl];exact Zz hl
 ·intro hz
  obtain⟨x,hx,rfl⟩:=List.getElem_of_mem hz;refine YG.mpr ⟨x,(h x).mpr (by rw[ZbO]at hx;exact hx),?_⟩;unfold Zb3;rw[Zi,Zh hx];rfl
structure StL(b0 gb vb ub g n c:Nat)(A:Option Addr)(A':Option Addr)(W:List Int)(ol:List Int)(ps:List Nat)(us:List Int)(w':World):Prop where
 d0:w'.cell? ⟨b0,0,none⟩=some (.slice A n c)
 g0:w'.cell? ⟨gb,0,none⟩=some (.slice (some ⟨g,0,none⟩) n n)
 v0:w'.cell? ⟨vb,0,none⟩=some (.slice (some ⟨ub,0,none⟩) n n)
 row:RowN g ps w'
 up:RowV ub 3 (Zhx us) w'
 ints:Ints w' ub A W
 out:Ints w' ub A' ol
 tab:Tab64 w'
 lb:b0<ub
 lg:gb<ub
 lr:g<ub
 lt:0<ub
 lv:ub<vb
section
variable {b0 gb vb ub g n c: Nat}{A A': Option Addr}{W: List Int}{E: List (Int × Int)}{ol: List Int}{ps: List Nat}{us: List Int}
theorem StL.next{w1 w2:World}(h:StL b0 gb vb ub g n c A A' W ol ps us w1)(hb:Below w1.heap.size w1 w2):StL b0 gb vb ub g n c A A' W ol ps us w2:=
  ⟨(hb.cell (Zw _ _ h.d0)).trans h.d0, (hb.cell (Zw _ _ h.g0)).trans h.g0, (hb.cell (Zw _ _ h.v0)).trans h.v0, h.row.below hb h.row.lt, h.up.below hb h.up.lt,
    h.ints.below (hb.mono (Nat.le_of_lt h.up.lt)),h.out.below (hb.mono (Nat.le_of_lt h.up.lt)),h.tab.via hb,h.lb,h.lg,h.lr,h.lt,h.lv⟩
theorem StL.store{w1:World}(h:StL b0 gb vb ub g n c A A' W ol ps us w1)(j:Nat)(z:Int):StL b0 gb vb ub g n c A A' W ol ps (us.set j z) (w1.setCell ⟨ub,j,none⟩ (.int .i64 z)):=by have hb:Below ub w1 (w1.setCell ⟨ub,j,none⟩ (.int .i64 z)):=(Zl ub w1).setCell (Zm _) _;refine⟨(hb.cell h.lb).trans h.d0,(hb.cell h.lg).trans h.g0,(World.cell?_setCell_other _ _ _ _ ?_).trans h.v0,h.row.below hb h.lr,by rw[Zm3];exact h.up.set j _,h.ints.below hb,h.out.below hb,h.tab.below hb h.lt,h.lb,h.lg,h.lr,h.lt,h.lv⟩;intro e;have h1:ub=vb:=congrArg Addr.block e;have:=h.lv;omega
theorem StL.cells{w':World}(h:StL b0 gb vb ub g n c A A' W ol ps us w'):w'.cell? ⟨b0,0,none⟩=some (.slice A n c)/\w'.cell? ⟨gb,0,none⟩=some (.slice (some ⟨g,0,none⟩) n n)/\w'.cell? ⟨vb,0,none⟩=some (.slice (some ⟨ub,0,none⟩) n n):=⟨h.d0,h.g0,h.v0⟩
theorem Zq1(x:Nat)(w:World)(hn:W.length=n)(hl:n<=64)(hx:x<n)(hF:Fits n E)(hW:ZbG W)(hPS:PredsOf n E ps)(hus:us.length=n)(hub:∀y,y<n->0<=us.getD y 0/\us.getD y 0<=64000)(h:StL b0 gb vb ub g n c A A' W ol ps us w):
  Calls Zg 125 #[.int .i64 x,.pointer (some ⟨gb,0,none⟩),.pointer (some ⟨vb,0,none⟩),.pointer (some ⟨b0,0,none⟩)] w fun e w'=>e=.returned (.int .i64 (most ((Zby (ps.getD x 0)).map fun p=>us.getD p 0)+W.getD x 0))/\Below w.heap.size w w':=by
 obtain⟨z,hz⟩:∃z,W[x]?=some z:=⟨_,Zh (by rw[hn];exact hx)⟩;have hzd:W.getD x 0=z:=by rw[Zi,hz];rfl
 have hz2:=hW z (ZC hz);rw[hzd];have hrow:=h.row.cell (Zd8 (ps:=ps) (j:=x) (by rw[hPS.len];exact hx));have C:=Zf (Znh (ps.getD x 0) w (hPS.lt x hx) h.tab);have HMEM:=Zf (fun p (hp:p∈Zby (ps.getD x 0))=>(Zf4 hF (of_decide_eq_true ((hPS.bit x hx p).symm.trans (mem_bitsL.mp hp).2))).1);have HLEN:=Zf (Zde (ps.getD x 0));obtain⟨l,hll⟩:∃l,l=Zby (ps.getD x 0):=⟨_,rfl⟩;obtain⟨p0,hp0⟩:∃p,p=ps.getD x 0:=⟨_,rfl⟩;rw[<-hll]at C HMEM HLEN⊢;rw[<-hp0]at C hrow;obtain⟨lf,hlf⟩:∃lf,lf=l.map fun p=>us.getD p 0:=⟨_,rfl⟩;have HLF:=Zf hlf;rw[<-hlf];obtain⟨k,hk⟩:∃k,k=l.length:=⟨_,rfl⟩;have HK:=Zf hk;have HKN:=Zf (show(nums l).length=k by rw[Zai,hk]);have HFK:=Zf (show lf.length=k by rw[hlf,ZH,hk]);obtain⟨mv,hmv⟩:∃mv,mv=most lf:=⟨_,rfl⟩;rw[<-hmv];have HMV:=Zf hmv;have hk64:k<=64:=by rw[hk];exact HLEN.out
 have HS:=Zf h;have HZ:=Zf hz;have HN:=Zf hn;have HUS:=Zf hus;have HUB:=Zf hub;obtain⟨c1,c2,c3⟩:=h.cells;have hgl:=h.row.lt;clear hF hW hPS hus hub h hz hzd hn hll hp0 hlf hk hmv;go_enter func125,ntmps125;go_wp2_with(go_at_call 126;refine C.out.mono ?_;rintro e w1 ⟨A3,c3',rfl,hI,b⟩;have HI:=Zf hI;have HB:=Zf b;have HNL:(nums l).length=k:=HKN.out;clear hI b);have HS1:=Zf (HS.out.next HB.out);clear c1 c2 c3 hgl hrow C;obtain⟨c1,c2,c3⟩:=HS1.out.cells;go_loop [6,16] (fun s i=>∃(j:Nat) (v:Int),j<=k/\i=.int .i64 j/\0<=v/\v<=64000/\Hid (v=most (lf.take j))/\s=.int .i64 v) (fun _ i=>k - (intOf i).toNat)
 case atStart=>exact⟨0,0,Zu _,by simp,by omega,by omega,Zf rfl,rfl⟩
 case round=>
  obtain⟨j,v,hj,rfl,hv0,hv1,hve,rfl⟩:=hrel;by_cases hlt:j<k
  ·obtain ⟨bk,o,q,rfl,hbg,hqj,hc1⟩:=HI.out.at_ (k:=j) (by rw [HKN.out]; exact hlt)
   obtain⟨p,rfl,hp⟩:=ZkV hqj;have hpn:=HMEM.out p (ZC hp);have hcu:=HS1.out.up.cell (Zhy (l:=us) (j:=p) (by rw[HUS.out];exact hpn));have hub:=HUB.out p hpn;have hfj:lf[j]?=some (us.getD p 0):=by rw[HLF.out,ZO,hp];rfl
   have HMS:=Zf (Zis hfj);have hul:=HS1.out.up.lt;obtain⟨u,hu⟩:∃u,u=us.getD p 0:=⟨_,rfl⟩;rw[<-hu]at hcu hub HMS;clear hqj hp hfj hu;by_cases hvz:v<u
   ·have HMX:=Zf (show u = most (lf.take (j + 1)) by rw [HMS.out,<- hve.out,Int.max_eq_right (by omega)])
    go_wp2;go_round
    case rel=>exact⟨j+1,u,by omega,by go_num,by omega,by omega,HMX,by first|rfl|(simp;omega)⟩
    case measure=>simp[intOf];omega
   ·have HMX:=Zf (show v = most (lf.take (j + 1)) by rw [HMS.out,<- hve.out,Int.max_eq_left (by omega)])
    go_wp2;go_round
    case rel=>exact⟨j+1,v,by omega,by go_num,by omega,by omega,HMX,by first|rfl|(simp;omega)⟩
    case measure=>simp[intOf];omega
  ·obtain rfl: j = k:=by omega
   have hl2:lf.take j=lf:=Z6 (by rw[HFK.out];omega);rw[hl2]at hve;obtain⟨bw,ow,z2,hA2,hbw,hzx,hcz⟩:=HS1.out.ints.at_ (k:=x) (by rw[HN.out];exact hx);obtain rfl:z2=z:=by have:=HZ.out;rw[hzx]at this;exact Option.some.inj this
   subst hA2;clear hzx;go_wp2;go_ret;exact⟨by rw[HMV.out,<-hve.out];rfl,HB.out⟩
end
section
variable {A: Option Addr}{n c: Nat}{F: Option Addr}{m d: Nat}{W: List Int}{E: List (Int × Int)}
theorem Zm7{ps:List Nat}{us:List Int}{out:List Nat}(hO:Ordered n E out)(hP:PredsOf n E ps)(hn:n<=64)(hF:Fits n E){j x:Nat}(hx:out[j]?=some x)(hu:∀y∈out.take j,us.getD y 0=Zb3 W E y):
  ((Zby (ps.getD x 0)).map fun p=>us.getD p 0)=(Zby (ps.getD x 0)).map (Zb3 W E):=by
 apply List.map_congr_left;intro p hp;have hxn:x<n:=hO.lt x (ZC hx);have he:ed E p x:=of_decide_eq_true ((hP.bit x hxn p).symm.trans (mem_bitsL.mp hp).2);obtain⟨hj,e⟩:=List.getElem?_eq_some_iff.mp hx;exact hu p (hO.behind j hj p (by rw[e];exact he))
theorem Zm8{ps:List Nat}(hP:PredsOf n E ps)(hn:n<=64)(hF:Fits n E){x:Nat}(hx:x<n)(a:Nat):a∈Zby (ps.getD x 0)↔ed E a x:=by
 rw[mem_bitsL,hP.bit x hx a,decide_eq_true_iff];constructor
 ·exact And.right
 ·intro h
  have:=Zf4 hF h;exact⟨by omega,h⟩
theorem StL.start{b0 g n c:Nat}{A A':Option Addr}{c':Nat}{W ol:List Int}{ps:List Nat}{w1:World}(hb:b0<w1.heap.size)(h0:w1.cell? ⟨b0,0,none⟩=some (.slice A n c))(hr:RowN g ps w1)(hi:Ints w1 w1.heap.size A W)(ho:Ints w1 w1.heap.size A' ol)(hT:Tab64 w1):
  StL b0 w1.heap.size (w1.heap.size+1+1) (w1.heap.size+1) g n c A A' W ol ps (Zj n 0) (((w1.alloc (.cells #[.slice (some ⟨g,0,none⟩) n n,.slice A' n c'] 171)).alloc (.cells (Yt n (Value.int .i64 0)) 3)).alloc (.cells #[.slice (some ⟨w1.heap.size+1,0,none⟩) n n] 22)):=by
 obtain⟨w2,h2⟩:∃w2,w2=w1.alloc (.cells #[.slice (some ⟨g,0,none⟩) n n,.slice A' n c'] 171):=⟨_,rfl⟩;obtain⟨w3,h3⟩:∃w3,w3=w2.alloc (.cells (Yt n (Value.int .i64 0)) 3):=⟨_,rfl⟩;obtain⟨w4,h4⟩:∃w4,w4=w3.alloc (.cells #[.slice (some ⟨w1.heap.size+1,0,none⟩) n n] 22):=⟨_,rfl⟩;rw[<-h2,<-h3,<-h4];have s2:w2.heap.size=w1.heap.size+1:=by rw[h2];simp
 have s3:w3.heap.size=w1.heap.size+1+1:=by rw[h3];simp[s2]
 have s4:w4.heap.size=w1.heap.size+1+1+1:=by rw[h4];simp[s3]
 have b3:Below w3.heap.size w3 w4:=by rw[h4];exact Zaa _
 have b2:Below w2.heap.size w2 w4:=(by rw[h3];exact Zaa _:Below w2.heap.size w2 w3).trans (b3.mono (by omega));have b1:Below w1.heap.size w1 w4:=(by rw[h2];exact Zaa _:Below w1.heap.size w1 w2).trans (b2.mono (by omega));have hu:RowV (w1.heap.size+1) 3 (Zhx (Zj n 0)) w3:=by
  have e:(Zhx (Zj n 0)).toArray=Yt n (Value.int .i64 0):=by simp[Zhx]
  unfold RowV;rw[e,h3,<-s2];exact Yak w2 _
 have:=hT.lt;have:=hr.lt;refine⟨(b1.cell hb).trans h0,?_,?_,hr.below b1 hr.lt,hu.below b3 (by omega),(hi.below b1).more (by omega),(ho.below b1).more (by omega),hT.via b1,by omega,by omega,by omega,by omega,by omega⟩
 ·refine (b2.cell (by show w1.heap.size < _; omega)).trans ?_
  rw[h2,Zp _ _ _ _ rfl];rfl
 ·rw[h4,Zp _ _ _ _ s3.symm];rfl
theorem Zm9(w:World)(h:IsG w A n c F m d W E):
  Calls Zg 64 #[.agg #[.slice A n c,.slice F m d]] w fun e w'=>e=.returned (.int .i64 (Zb4 W E))/\Below w.heap.size w w':=by
 have H:=Zf h;by_cases hM:May W E
 ·have C:=Zf (fun w' (h: IsG w' A n c F m d W E) => ZhC w' h hM)
  have hF:Fits n E:=by rw[<-h.hn];exact hM.fits
  have hn64:n<=64:=by rw[<-h.hn];exact hM.nodes
  have HF:=Zf hF;have HN:=Zf h.hn;have HM:=Zf hM;have HORD:=Zf (Zbd hF n);have HOL:=Zf (show(ord n E).length=n from ZdZ hF hM.acyc n (Zm _));have hmk:=fun W'=>Zm4 n (by omega) W';have HT:=Zf (show Zb4 W E=most ((ord n E).map (Zb3 W E)) by
   unfold Zb4;rw[Zc hM,ZlL];intro x;rw[h.hn];exact⟨(Zbd hF n).lt x,fun hx=>(Zbd hF n).all (ZdZ hF hM.acyc n (Zm _)) x hx⟩)
  obtain⟨r,hr⟩:∃r,r=Zb4 W E:=⟨_,rfl⟩;rw[<-hr]at HT⊢;clear h hM hr hF;go_enter func64,ntmps64;go_wp2_with fail;refine(C.out _ (H.out.below (Zaa _))).mono ?_;rintro e w1 ⟨g,A',c',rfl,hR⟩;have HB:=Zf ((Zaa (w:=w) (.cells #[.slice A n c,.slice F m d] 25)).trans (hR.bel.mono (by simp)));have HR:=Zf hR;have HG:=Zf ((H.out.below (Zaa (.cells #[.slice A n c,.slice F m d] 25))).below hR.bel);have hs1:w.heap.size<w1.heap.size:=by have:=hR.bel.size;simp at this;exact this
  have hbox0:w1.cell? ⟨w.heap.size,0,none⟩=some (.slice A n c):=(hR.bel.cell (by simp)).trans (by rw[Zp _ _ _ _ rfl];rfl);clear hR;go_wp2;obtain⟨ps,hV,hPS⟩:=HR.out.row;have HPS:=Zf hPS;have H0:=Zf (StL.start (c':=c') hs1 hbox0 hV HG.out.ints HR.out.ints HG.out.tab);have HB0:=Zf (((Zaa (w:=w1) (.cells #[.slice (some ⟨g,0,none⟩) n n,.slice A' n c'] 171)).alloc (by simp) (.cells (Yt n (Value.int .i64 0)) 3)).alloc (by simp;omega) (.cells #[.slice (some ⟨w1.heap.size+1,0,none⟩) n n] 22));have HBND:=Zf (fun x (hx:x<n)=>Zm6 (by rw[HN.out];exact HF.out) HM.out.acyc HM.out.work (x:=x) (by rw[HN.out];exact hx));obtain⟨b0,hb0⟩:∃b0,b0=w.heap.size:=⟨_,rfl⟩;obtain⟨gb,hgb⟩:∃gb,gb=w1.heap.size:=⟨_,rfl⟩;clear hV hPS hbox0;go_loopw [7,25] (fun s i wr=>∃(j:Nat) (v:Int) (us:List Int),j<=n/\i=.int .i64 j/\0<=v/\v<=64000/\s=.int .i64 v/\Hid (v=most (((ord n E).map (Zb3 W E)).take j))/\Hid (us.length=n)/\Hid (∀y,y<n->0<=us.getD y 0/\us.getD y 0<=64000)/\Hid (∀y∈(ord n E).take j,us.getD y 0=Zb3 W E y)/\Hid (StL w.heap.size w1.heap.size (w1.heap.size+1+1) (w1.heap.size+1) g n c A A' W (nums (ord n E)) ps us wr)/\Hid (Below w1.heap.size w1 wr)) (fun _ i _=>n - (intOf i).toNat)
  case atStart=>exact⟨0,0,_,Zu _,rfl,by omega,by omega,rfl,Zf rfl,Zf (by simp),Zf (fun y hy=>by simp[Zi,hy]),Zf (fun y hy=>by simp at hy),H0,HB0⟩
  case round=>
   obtain⟨j,v,us,hj,rfl,hv0,hv1,rfl,hve,HUL,HUB,HUF,HS,HB1⟩:=hrel;clear H0 HB0;by_cases hlt:j<n
   ·obtain ⟨bk,o,z,rfl,hbg,hzj,hc1⟩:=HS.out.out.at_ (k:=j) (by rw [Zai,HOL.out]; exact hlt)
    obtain⟨x,rfl,hx⟩:=ZkV hzj;have hxn:x<n:=HORD.out.lt x (ZC hx);have hv:=Zm7 HORD.out HPS.out hn64 HF.out hx HUF.out;have hfs:=Zpf (by rw[HN.out];exact HF.out) HM.out.acyc (x:=x) (by rw[HN.out];exact hxn) (l:=Zby (ps.getD x 0)) (Zm8 HPS.out hn64 HF.out hxn);have C2:=Zf (fun W' (hs:StL w.heap.size w1.heap.size (w1.heap.size+1+1) (w1.heap.size+1) g n c A (some ⟨bk,o,none⟩) W (nums (ord n E)) ps us W')=>Zq1 x W' HN.out hn64 hxn HF.out HM.out.work HPS.out HUL.out HUB.out hs);simp only[hv,<-hfs]at C2;have hfb:=HBND.out x hxn;have hfj:((ord n E).map (Zb3 W E))[j]?=some (Zb3 W E x):=by rw[ZO,hx];rfl
    have HMS:=Zf (Zis hfj);have HTK:=Zf (Zbk hx);obtain⟨fx,hfx⟩:∃fx,fx=Zb3 W E x:=⟨_,rfl⟩;have HFX:=Zf hfx;rw[<-hfx]at hfb HMS;simp only[<-hfx]at C2;rw[HN.out]at hfb;have hxu:x<us.length:=by rw[HUL.out];exact hxn
    have HU2:Hid (∀y,y<n->0<=(us.set x fx).getD y 0/\(us.set x fx).getD y 0<=64000):=Zf (fun y hy=>by
     rw[ZbH];split
     ·omega
     ·exact HUB.out y hy)
    have HF2:Hid (∀y∈(ord n E).take (j+1),(us.set x fx).getD y 0=Zb3 W E y):=Zf (fun y hy=>by
     rw[ZbH];split
     ·rename_i k
      rw[<-k.1];exact HFX.out
     ·rename_i k
      rw[HTK.out]at hy;rcases List.mem_append.mp hy with hy|hy
      ·exact HUF.out y hy
      ·obtain rfl: y = x:=by simpa using hy
       exact absurd ⟨rfl,hxu⟩ k)
    clear hzj hx hv hfs hfj hfx hxu;obtain⟨c1,c2,c3⟩:=HS.out.cells;go_wp2_with fail
    go_region_with (go_at_call 125;refine(C2.out _ (HS.out.next ((Zl _ _).drew))).mono ?_;rintro e w5 ⟨rfl,b⟩;have HS5:=Zf ((HS.out.next ((Zl _ _).drew)).next b);have HB5:=Zf b;have d3:=HS5.out.v0;have hul5:=HS5.out.up.lt;have hfr5:=HS5.out.up.frozen x;have hcx5:=HS5.out.up.cell (Zhy (l:=us) (j:=x) (by rw[HUL.out];exact hxn));clear b)
    all_goals
     have HS6:=Zf (HS5.out.store x fx);have e3:=HS6.out.v0;have hgx:(us.set x fx).getD x 0=fx:=by rw[ZbH,Zc ⟨rfl,by rw[HUL.out];exact hxn⟩]
     have e4:=HS6.out.up.cell (Zhy (l:=us.set x fx) (j:=x) (by rw[ZU,HUL.out];exact hxn));rw[hgx]at e4;clear hgx d3 hcx5;by_cases hvz:v<fx
     ·have HMX:=Zf (show fx = most (((ord n E).map (Zb3 W E)).take (j + 1)) by rw [HMS.out,<- hve.out,Int.max_eq_right (by omega)])
      go_wp2;go_roundw
      case rel=>exact⟨j+1,fx,us.set x fx,by omega,by go_num,by omega,by omega,(by first|rfl|rw[Int.max_eq_right (by omega)]),HMX,Zf (by rw[ZU];exact HUL.out),HU2,HF2,HS6,Zf ((HB1.out.trans (((Zl _ _).drew.trans HB5.out).mono HB1.out.size)).setCell (by show w1.heap.size<=w1.heap.size+1;omega) _)⟩
      case measure=>simp[intOf];omega
     ·have HMX:=Zf (show v = most (((ord n E).map (Zb3 W E)).take (j + 1)) by rw [HMS.out,<- hve.out,Int.max_eq_left (by omega)])
      go_wp2;go_roundw
      case rel=>exact⟨j+1,v,us.set x fx,by omega,by go_num,by omega,by omega,(by first|rfl|rw[Int.max_eq_left (by omega)]),HMX,Zf (by rw[ZU];exact HUL.out),HU2,HF2,HS6,Zf ((HB1.out.trans (((Zl _ _).drew.trans HB5.out).mono HB1.out.size)).setCell (by show w1.heap.size<=w1.heap.size+1;omega) _)⟩
      case measure=>simp[intOf];omega
   ·obtain rfl: j = n:=by omega
    have hl2:((ord j E).map (Zb3 W E)).take j=(ord j E).map (Zb3 W E):=Z6 (by rw[ZH,HOL.out];exact Zm _);rw[hl2]at hve;go_wp2;go_ret;exact⟨by rw[HT.out,<-hve.out];rfl,HB.out.trans (HB1.out.mono HB.out.size)⟩
 ·have C:=Zf (fun w' (h: IsG w' A n c F m d W E) => ZhB w' h hM)
  have HO:Zb4 W E=0:=by unfold Zb4;rw[Zb hM]
  rw[HO];have hc:(chkE W E !=0)=true:=by rw[bne_iff_ne];exact fun q=>hM (chkE_zero.mp q)
  obtain⟨r,hr⟩:∃r,r=chkE W E:=⟨_,rfl⟩;rw[<-hr]at C hc;clear h hM hr HO;go_enter func64,ntmps64;go_wp2_with fail;refine(C.out _ (H.out.below (Zaa _))).mono ?_;rintro e w1 ⟨rfl,b⟩;have HB:=Zf ((Zaa _).trans (b.mono (by simp)));clear b;go_wp2;go_ret;exact⟨rfl,HB.out.alloc HB.out.size _⟩
end
theorem Zpg{ps fs:List (Int×Int×Int)}(hps:ZaM ps)(hf:FutsOk ps fs)(x:Nat):(touL fs (x:Int)).length=((Zo fs.length).filter fun k=>decide ((Zap fs k).2.1=(x:Int))).length:=by
 have hn:(touL fs (x:Int)).Nodup:=ZeL fs (x:Int) 99;refine((List.perm_ext_iff_of_nodup hn (List.Nodup.sublist List.filter_sublist List.nodup_range)).mpr fun k=> ?_).length_eq;rw[List.mem_filter,ZD,decide_eq_true_iff];constructor
 ·intro h
  have:=mem_touK.mp h;exact⟨this.1,this.2.1⟩
 ·rintro ⟨h1,h2⟩
  have h:=Znm hps hf h1
  rwa [h2]at h
theorem Ziq(u:Nat->Int)(n:Nat):∀l:List Nat,(l.filter fun k=>decide (u k<((n+1:Nat):Int))).length=(l.filter fun k=>decide (u k<(n:Int))).length+(l.filter fun k=>decide (u k=(n:Int))).length
  | []=>rfl
  | k :: l => by
    have ih:=Ziq u n l;have h0:(u k<((n+1:Nat):Int))↔(u k<(n:Int)\/u k=(n:Int)):=by omega
    by_cases h1:u k<(n:Int)
    · have e1:decide (u k<((n+1:Nat):Int))=true:=Ze (h0.mpr (.inl h1));have e2:decide (u k<(n:Int))=true:=Ze h1;have e3:decide (u k=(n:Int))=false:=Zd (by omega);rw[Yf,Yf,Yf,Zc e1,Zc e2,Zb (by rw[e3];exact Yp),Ya,Ya];omega
    · by_cases h3:u k=(n:Int)
      · have e1:decide (u k<((n+1:Nat):Int))=true:=Ze (h0.mpr (.inr h3));have e2:decide (u k<(n:Int))=false:=Zd h1;have e3:decide (u k=(n:Int))=true:=Ze h3;rw[Yf,Yf,Yf,Zc e1,Zb (by rw[e2];exact Yp),Zc e3,Ya,Ya];omega
      · have e1:decide (u k<((n+1:Nat):Int))=false:=Zd (fun h=>by rcases h0.mp h with h|h;exact h1 h;exact h3 h);have e2:decide (u k<(n:Int))=false:=Zd h1;have e3:decide (u k=(n:Int))=false:=Zd h3;rw[Yf,Yf,Yf,Zb (by rw[e1];exact Yp),Zb (by rw[e2];exact Yp),Zb (by rw[e3];exact Yp)];exact ih
theorem ZkX{ps fs:List (Int×Int×Int)}(hps:ZaM ps)(hf:FutsOk ps fs):∀n,firN fs n=n+((Zo fs.length).filter fun k=>decide ((Zap fs k).2.1<(n:Int))).length
  | 0 => by
    rw[firN,List.filter_eq_nil_iff.mpr]
    · rfl
    · intro k hk;have hk':k<fs.length:=ZD.mp hk;have e:Zap fs k=fs[k]:=by unfold Zap;rw[Zi,Zh hk'];rfl
      have:=(hf.each fs[k] (Zz hk')).user.1;rw[e];simp;omega
  | n + 1 => by
    rw[firN,ZkX hps hf n,Ziq (fun k=>(Zap fs k).2.1) n];unfold nst;rw[Zpg hps hf n];omega
theorem Zhz{ps fs:List (Int×Int×Int)}(hps:ZaM ps)(hf:FutsOk ps fs):firN fs ps.length=ps.length+fs.length:=by
 rw[ZkX hps hf,List.filter_eq_self.mpr,Yo];intro k hk;have hk':k<fs.length:=ZD.mp hk;have e:Zap fs k=fs[k]:=by unfold Zap;rw[Zi,Zh hk'];rfl
 have:=(hf.each fs[k] (Zz hk')).user.2;rw[e,decide_eq_true_iff];exact this
theorem ZhA{T:Task}(hM:MayT T):(lowW T).length=T.parts.length+T.futures.length+T.bars.length:=by unfold lowW;rw[Zq,ZcT,Zhz hM.parts hM.futures,List.length_replicate]
theorem Zph{T:Task}(hM:MayT T):(lowP T).length=T.parts.length+T.futures.length+T.bars.length:=by unfold lowP;rw[Zq,ZhM,Zhz hM.parts hM.futures,ZH,Yo]
theorem Zna{T:Task}(hM:MayT T):(lowW T).length<=36/\(lowE T).length<=400/\(lowP T).length<=36:=by
 have hfew:=hM.few;unfold ZhK at hfew;have h1:=ZhN T.futures T.parts.length;have h2:=Zhz hM.parts hM.futures;have h3:=ZjD T.futures T.bars (firN T.futures T.parts.length) 16 (fun b hb=>by have h:=hM.bars b hb;have k1:=ZdD h.ins;have k2:=ZdD h.outs;omega) T.bars.length
 have h4:T.bars.length * (2 * 16)<=4 * 32:=Nat.mul_le_mul (by omega) (by omega);refine⟨by rw[ZhA hM];omega,?_,by rw[Zph hM];omega⟩;unfold lowE;rw[Zq,Zq,Zq,ZH,ZH,Yo];omega
def ZdO(T:Task):Prop:=MayT T/\May (lowW T) (lowE T)
open Classical in
noncomputable def lowX (T:Task):Int:=if MayT T then(if May (lowW T) (lowE T)then 0 else 70)else chkT T
open Classical in
noncomputable def Zau (T:Task):List Int:=if ZdO T then lowW T else []
open Classical in
noncomputable def ZaH (T:Task):List (Int×Int):=if ZdO T then lowE T else []
open Classical in
noncomputable def ZbY (T:Task):List (Int×Int):=if ZdO T then lowP T else []
theorem lowX_zero{T:Task}:lowX T=0↔ZdO T:=by
 unfold lowX ZdO;by_cases h1:MayT T
 ·rw [Zc h1]
  by_cases h2:May (lowW T) (lowE T)
  ·rw[Zc h2];exact⟨fun _=>⟨h1,h2⟩,fun _=>rfl⟩
  ·rw[Zb h2];exact⟨fun h=>by omega,fun h=>absurd h.2 h2⟩
 ·rw [Zb h1]
  exact⟨fun h=>absurd (chkT_zero.mp h) h1,fun h=>absurd h.1 h1⟩
def GotLow(T:Task)(w:World)(e:Ending)(w':World):Prop:=∃ vW vE vP,e=.returned (.tuple #[.agg #[vW,vE,vP],.int .i64 (lowX T)])/\OwnI w' w.heap.size vW (Zau T)/\OwnE w' w.heap.size vE (ZaH T)/\OwnP w' w.heap.size vP (ZbY T)/\Below w.heap.size w w'
theorem Zir{T:Task}{w w':World}{n:Int}(hn:n=lowX T)(h0:lowX T≠0)(hb:Below w.heap.size w w'):GotLow T w (.returned (.tuple #[.agg #[.slice none 0 0,.slice none 0 0,.slice none 0 0],.int .i64 n])) w':=by
 have hN:¬ZdO T:=fun h=>h0 (lowX_zero.mpr h);refine⟨_,_,_,by rw[hn],?_,?_,?_,hb⟩
 ·rw[show Zau T= [] by unfold Zau;rw[Zb hN]];exact⟨rfl,.inl ⟨rfl,rfl⟩⟩
 ·rw[show ZaH T= [] by unfold ZaH;rw[Zb hN]];exact⟨rfl,.inl ⟨rfl,rfl⟩⟩
 ·rw[show ZbY T= [] by unfold ZbY;rw[Zb hN]];exact⟨rfl,.inl ⟨rfl,rfl⟩⟩
theorem Znb(s:Sh)(T:Task)(w:World)(hD:IsD w s T)(hM:¬MayT T):Calls Zg 35 #[s.arg T.period T.deadline] w (GotLow T w):=by
 obtain⟨P,np,pc,E,ne,ec,F,nf,fc,R,nr,rc⟩:=s;have hx:lowX T=chkT T:=by unfold lowX;rw[Zb hM]
 have h0:chkT T≠0:=fun h=>hM (chkT_zero.mp h);have hr:(chkT T !=0)=true:=bne_iff_ne.mpr h0;have C:=fun W (h:IsD W ⟨P,np,pc,E,ne,ec,F,nf,fc,R,nr,rc⟩ T)=>ZeP ⟨P,np,pc,E,ne,ec,F,nf,fc,R,nr,rc⟩ T W h;obtain⟨r,hrr⟩:∃r,r=chkT T:=⟨_,rfl⟩;rw[<-hrr]at C hx h0 hr;have HC:=Zf C;have HX:=Zf hx;have H0:=Zf h0;have B0:=Zf (BxI.start hD T.period T.deadline);simp only[Sh.arg]at HC⊢;obtain⟨wA,hwA⟩:∃wA,wA=w.alloc (.cells #[.int .i64 T.period,.int .i64 T.deadline,.slice P np pc,.slice E ne ec,.slice F nf fc,.slice R nr rc] 64):=⟨_,rfl⟩;obtain⟨wB,hwB⟩:∃wB,wB=wA.alloc (.cells #[.slice none 0 0,.slice none 0 0,.slice none 0 0] 76):=⟨_,rfl⟩;rw[<-hwA]at B0;have hbB:Below wA.heap.size wA wB:=by rw[hwB];exact Zaa _
 have sA:wA.heap.size=w.heap.size+1:=by rw[hwA];simp
 have rB:wB.heap[w.heap.size+1]?=some (.cells #[.slice none 0 0,.slice none 0 0,.slice none 0 0] 76 (0,0)):=by rw[hwB,<-sA];exact Yak wA _
 have sB:wB.heap.size=w.heap.size+2:=by rw[hwB];simp[sA]
 have B1:=Zf (B0.out.next hbB);have HRB:=Zf rB;have HSB:=Zf sB;have HW:=Zf (And.intro hwA hwB);clear hD hM hx h0 C hrr hwA hwB B0 hbB rB sA sB;go_enter func35,ntmps35;go_wp2_with fail;rw[<-HW.out.1,<-HW.out.2];clear HW;refine(HC.out _ B1.out.d).mono ?_;rintro e w1 ⟨rfl,b1⟩;have HBW:=Zf (B1.out.b.bel.trans (b1.mono B1.out.b.bel.size));have hrb:=(b1.block (w.heap.size+1) (by rw[HSB.out];omega)).trans HRB.out;have y0:=Yaf w1 (w.heap.size+1) 0 _ _ _ hrb;have y1:=Yaf w1 (w.heap.size+1) 1 _ _ _ hrb;have y2:=Yaf w1 (w.heap.size+1) 2 _ _ _ hrb;simp at y0 y1 y2;have z0:=Yaj w1 (w.heap.size+1) 0 _ _ hrb;have z1:=Yaj w1 (w.heap.size+1) 1 _ _ hrb;have z2:=Yaj w1 (w.heap.size+1) 2 _ _ hrb;have HRW:=Zf hrb;clear hrb b1;go_wp2;have h1:=Yai w1 (w.heap.size+1) 0 _ _ (.slice none 0 0) HRW.out;have h2:=Yai _ (w.heap.size+1) 1 _ _ (.slice none 0 0) h1;have h3:=Yai _ (w.heap.size+1) 2 _ _ (.slice none 0 0) h2;obtain⟨x2,hx2⟩:∃x2,x2=((w1.setCell ⟨w.heap.size+1,0,none⟩ (.slice none 0 0)).setCell ⟨w.heap.size+1,1,none⟩ (.slice none 0 0)).setCell ⟨w.heap.size+1,2,none⟩ (.slice none 0 0):=⟨_,rfl⟩;rw[<-hx2]at h3⊢;have hle:w.heap.size<=w.heap.size+1:=Nat.le_succ _;have hbx:Below w.heap.size w1 x2:=by rw[hx2];exact(((Zl _ w1).setCell hle _).setCell hle _).setCell hle _
 have k0:=Yaf x2 (w.heap.size+1) 0 _ _ _ h3;have k1:=Yaf x2 (w.heap.size+1) 1 _ _ _ h3;have k2:=Yaf x2 (w.heap.size+1) 2 _ _ _ h3;simp at k0 k1 k2;clear hx2;refine Yal (v:=.tuple #[.agg #[.slice none 0 0,.slice none 0 0,.slice none 0 0],.int .i64 r]) ?_ rfl (Zir HX.out.symm (by rw[HX.out];exact H0.out) (HBW.out.trans hbx));rw[Yam rfl]
 go_simp
theorem Znc(s:Sh)(T:Task)(w:World)(hD:IsD w s T)(hM:MayT T):Calls Zg 35 #[s.arg T.period T.deadline] w (GotLow T w):=by
 obtain⟨P,np,pc,E,ne,ec,F,nf,fc,R,nr,rc⟩:=s;have C:=fun W (h:IsD W ⟨P,np,pc,E,ne,ec,F,nf,fc,R,nr,rc⟩ T)=>ZeP ⟨P,np,pc,E,ne,ec,F,nf,fc,R,nr,rc⟩ T W h;rw[chkT_zero.mpr hM]at C;have HC:=Zf C;have HL:=Zf (fun W (h:IsD W ⟨P,np,pc,E,ne,ec,F,nf,fc,R,nr,rc⟩ T)=>Zq5 ⟨P,np,pc,E,ne,ec,F,nf,fc,R,nr,rc⟩ T W h hM);have HM:=Zf hM;have HFEW:=Zf (Zna hM);have B0:=Zf (BxI.start hD T.period T.deadline);simp only[Sh.arg]at HC HL⊢;obtain⟨wA,hwA⟩:∃wA,wA=w.alloc (.cells #[.int .i64 T.period,.int .i64 T.deadline,.slice P np pc,.slice E ne ec,.slice F nf fc,.slice R nr rc] 64):=⟨_,rfl⟩;obtain⟨wB,hwB⟩:∃wB,wB=wA.alloc (.cells #[.slice none 0 0,.slice none 0 0,.slice none 0 0] 76):=⟨_,rfl⟩;rw[<-hwA]at B0;have hbB:Below wA.heap.size wA wB:=by rw[hwB];exact Zaa _
 have sA:wA.heap.size=w.heap.size+1:=by rw[hwA];simp
 have rB:wB.heap[w.heap.size+1]?=some (.cells #[.slice none 0 0,.slice none 0 0,.slice none 0 0] 76 (0,0)):=by rw[hwB,<-sA];exact Yak wA _
 have sB:wB.heap.size=w.heap.size+2:=by rw[hwB];simp[sA]
 have B1:=Zf (B0.out.next hbB);have HRB:=Zf rB;have HSB:=Zf sB;have HW:=Zf (And.intro hwA hwB);clear hD hM C hwA hwB B0 hbB rB sA sB;go_enter func35,ntmps35;go_wp2_with fail;rw[<-HW.out.1,<-HW.out.2];clear HW;refine(HC.out _ B1.out.d).mono ?_;rintro e w1 ⟨rfl,b1⟩;have B2:=Zf (B1.out.next b1);obtain⟨c0,c1,c2,c3,c4,c5⟩:=B2.out.b.cells;go_wp2_with fail;refine(HL.out _ B2.out.d).mono ?_;rintro e w2 ⟨vW,vE,vP,rfl,hOW,hOE,hOP,b2⟩;have B3:=Zf (B2.out.next b2);have hb12:Below wB.heap.size wB w2:=b1.trans (b2.mono b1.size);obtain⟨w3,hw3⟩:∃w3,w3=w2.alloc (.cells #[vW,vE,vP] 76):=⟨_,rfl⟩;have hb3:Below w2.heap.size w2 w3:=by rw[hw3];exact Zaa _
 have rB3:w3.heap[w.heap.size+1]?=some (.cells #[.slice none 0 0,.slice none 0 0,.slice none 0 0] 76 (0,0)):=by rw[(hb12.trans (hb3.mono hb12.size)).block _ (by rw[HSB.out];omega)];exact HRB.out
 have rL3:w3.heap[w2.heap.size]?=some (.cells #[vW,vE,vP] 76 (0,0)):=by rw[hw3];exact Yak w2 _
 have HOW:=Zf (Zac hOW hb3);have HOE:=Zf (Zac hOE hb3);have HOP:=Zf (Zac hOP hb3);have B4:=Zf (B3.out.next hb3);have hw12:w.heap.size+2<=w1.heap.size:=by have:=b1.size;rw[HSB.out]at this;exact this
 have hw23:w1.heap.size<=w2.heap.size:=b2.size;obtain⟨AW,cW,AE,cE,eW,eE,hIG⟩:=Zne B4.out.d.tab HOW.out HOE.out (by have:=HFEW.out.1;omega) HFEW.out.2.1;subst eW eE;obtain⟨AP,cP,eP⟩:=OwnP.slice HOP.out;subst eP;have HIG:=Zf hIG;have HRB3:=Zf rB3;have HRL3:=Zf rL3;clear b1 c0 c1 c2 c3 c4 c5 hOW hOE hOP b2 hb12 hb3 rB3 rL3 hIG HC HL B1 B2 B3;go_wp2_with fail;rw[<-hw3];clear hw3;refine(ZdC w3 HIG.out).mono ?_;rintro e w4 ⟨rfl,b4⟩;have hs3:w2.heap.size<w3.heap.size:=(Array.getElem?_eq_some_iff.mp HRL3.out).1;have hrb:=(b4.block (w.heap.size+1) (by omega)).trans HRB3.out;have hrl:=(b4.block w2.heap.size hs3).trans HRL3.out;have HBW:=Zf (B4.out.b.bel.trans (b4.mono B4.out.b.bel.size));have HO:=Zf (And.intro (Zac HOW.out b4) (And.intro (Zac HOE.out b4) (Zac HOP.out b4)));have y0:=Yaf w4 (w.heap.size+1) 0 _ _ _ hrb;have y1:=Yaf w4 (w.heap.size+1) 1 _ _ _ hrb;have y2:=Yaf w4 (w.heap.size+1) 2 _ _ _ hrb;simp at y0 y1 y2;have z0:=Yaj w4 (w.heap.size+1) 0 _ _ hrb;have z1:=Yaj w4 (w.heap.size+1) 1 _ _ hrb;have z2:=Yaj w4 (w.heap.size+1) 2 _ _ hrb;have l0:=Yaf w4 w2.heap.size 0 _ _ _ hrl;have l1:=Yaf w4 w2.heap.size 1 _ _ _ hrl;have l2:=Yaf w4 w2.heap.size 2 _ _ _ hrl;simp at l0 l1 l2;have HRW:=Zf hrb;have hchk:(chkE (lowW T) (lowE T)=0)↔May (lowW T) (lowE T):=chkE_zero;obtain⟨r,hr⟩:∃r,r=chkE (lowW T) (lowE T):=⟨_,rfl⟩;rw[<-hr]at hchk⊢;obtain⟨kW,hkW⟩:∃k,k=(lowW T).length:=⟨_,rfl⟩;obtain⟨kE,hkE⟩:∃k,k=(lowE T).length:=⟨_,rfl⟩;obtain⟨kP,hkP⟩:∃k,k=(lowP T).length:=⟨_,rfl⟩;rw[<-hkW,<-hkE,<-hkP]at HO⊢;rw[<-hkW]at l0;rw[<-hkE]at l1;rw[<-hkP]at l2;have HCK:=Zf hchk;have HK:=Zf (And.intro hkW (And.intro hkE hkP));clear hrb hrl b4 hr hchk hkW hkE hkP HIG HRB3 HRL3 HOW HOE HOP B4;have hle:w.heap.size<=w.heap.size+1:=Nat.le_succ _;by_cases h0:r=0
 ·have hOK: ZdO T:=⟨HM.out,HCK.out.mp h0⟩
  have HOK:=Zf hOK;have hX:=Zf (lowX_zero.mpr hOK);subst h0;clear hOK;go_wp2;have h1:=Yai w4 (w.heap.size+1) 0 _ _ (.slice AW kW cW) HRW.out;have h2:=Yai _ (w.heap.size+1) 1 _ _ (.slice AE kE cE) h1;have h3:=Yai _ (w.heap.size+1) 2 _ _ (.slice AP kP cP) h2;obtain⟨x2,hx2⟩:∃x2,x2=((w4.setCell ⟨w.heap.size+1,0,none⟩ (.slice AW kW cW)).setCell ⟨w.heap.size+1,1,none⟩ (.slice AE kE cE)).setCell ⟨w.heap.size+1,2,none⟩ (.slice AP kP cP):=⟨_,rfl⟩;rw[<-hx2]at h3⊢;have ho:∀k,k≠w.heap.size+1->x2.heap[k]?=w4.heap[k]?:=fun k hk=>by rw[hx2,Yah _ _ _ _ hk,Yah _ _ _ _ hk,Yah _ _ _ _ hk]
  have hbx:Below w.heap.size w4 x2:=by rw[hx2];exact(((Zl _ w4).setCell hle _).setCell hle _).setCell hle _
  have k0:=Yaf x2 (w.heap.size+1) 0 _ _ _ h3;have k1:=Yaf x2 (w.heap.size+1) 1 _ _ _ h3;have k2:=Yaf x2 (w.heap.size+1) 2 _ _ _ h3;simp at k0 k1 k2;clear hx2;refine Yal (v:=.tuple #[.agg #[.slice AW kW cW,.slice AE kE cE,.slice AP kP cP],.int .i64 0]) ?_ rfl ⟨_,_,_,by rw[hX.out],?_,?_,?_,HBW.out.trans hbx⟩
  ·rw [Yam rfl]
   go_simp
  ·rw[show Zau T=lowW T by unfold Zau;rw[Zc HOK.out]];unfold OwnI;rw[<-HK.out.1];exact ZaG (Zao HO.out.1 HRW.out (by decide) ho) (by omega)
  ·rw[show ZaH T=lowE T by unfold ZaH;rw[Zc HOK.out]];unfold OwnE;rw[<-HK.out.2.1];exact ZaG (Zao HO.out.2.1 HRW.out (by decide) ho) (by omega)
  ·rw[show ZbY T=lowP T by unfold ZbY;rw[Zc HOK.out]];unfold OwnP;rw[<-HK.out.2.2];exact ZaG (Zao HO.out.2.2 HRW.out (by decide) ho) (by omega)
 ·have hb: (r != 0) = true:=bne_iff_ne.mpr h0
  have hX:Hid ((70:Int)=lowX T):=Zf (by unfold lowX;rw[Zc HM.out,Zb (fun k=>h0 (HCK.out.mpr k))]);clear h0;go_wp2;have h1:=Yai w4 (w.heap.size+1) 0 _ _ (.slice none 0 0) HRW.out;have h2:=Yai _ (w.heap.size+1) 1 _ _ (.slice none 0 0) h1;have h3:=Yai _ (w.heap.size+1) 2 _ _ (.slice none 0 0) h2;obtain⟨x2,hx2⟩:∃x2,x2=((w4.setCell ⟨w.heap.size+1,0,none⟩ (.slice none 0 0)).setCell ⟨w.heap.size+1,1,none⟩ (.slice none 0 0)).setCell ⟨w.heap.size+1,2,none⟩ (.slice none 0 0):=⟨_,rfl⟩;rw[<-hx2]at h3⊢;have hbx:Below w.heap.size w4 x2:=by rw[hx2];exact(((Zl _ w4).setCell hle _).setCell hle _).setCell hle _
  have k0:=Yaf x2 (w.heap.size+1) 0 _ _ _ h3;have k1:=Yaf x2 (w.heap.size+1) 1 _ _ _ h3;have k2:=Yaf x2 (w.heap.size+1) 2 _ _ _ h3;simp at k0 k1 k2;clear hx2;refine Yal (v:=.tuple #[.agg #[.slice none 0 0,.slice none 0 0,.slice none 0 0],.int .i64 70]) ?_ rfl (Zir hX.out (by rw[<-hX.out];decide) (HBW.out.trans hbx));rw[Yam rfl]
  go_simp
theorem Znd(s:Sh)(T:Task)(w:World)(hD:IsD w s T):Calls Zg 35 #[s.arg T.period T.deadline] w (GotLow T w):=by
 by_cases hM:MayT T
 ·exact Znc s T w hD hM
 ·exact Znb s T w hD hM
section
variable {A: Option Addr}{n c: Nat}{F: Option Addr}{m d: Nat}{W: List Int}{E: List (Int × Int)}{A': Option Addr}{n' c': Nat}{F': Option Addr}{m' d': Nat}{W': List Int}{E': List (Int × Int)}
end
end Go.Proofs.YtfahabphncmbfaaGreatDoor
