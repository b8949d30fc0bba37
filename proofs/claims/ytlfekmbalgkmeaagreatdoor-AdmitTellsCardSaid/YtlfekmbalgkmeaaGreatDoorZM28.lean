import Derived.Test.YtlfekmbalgkmeaaGreatDoorZM25
import Derived.Laws.MakeOwn
import Derived.Test.YtlfekmbalgkmeaaGreatDoorZM27
import Derived.Deep.RegionWith
import Derived.Test.YtlfekmbalgkmeaaGreatDoorZM23
import Derived.Laws.ResultCell
import Derived.Test.YtlfekmbalgkmeaaGreatDoorZM11
set_option linter.unusedSimpArgs false
set_option linter.unnecessarySimpa false
set_option linter.unusedVariables false
set_option maxRecDepth 100000
set_option maxHeartbeats 8000000
namespace Go.Proofs.YtlfekmbalgkmeaaGreatDoor
open Go.RowKit
def intsV(l:List Int):List Value:=l.map (Value.int .i64)
theorem intsV_at{l:List Int}{j:Nat}(h:j<l.length):(intsV l)[j]? =some (.int .i64 (l.getD j 0)):=by
 unfold intsV;rw[List.getElem?_map,List.getElem?_eq_getElem h,List.getD_eq_getElem?_getD,List.getElem?_eq_getElem h]
 rfl
theorem intsV_set(l:List Int)(j:Nat)(z:Int):intsV (l.set j z)=(intsV l).set j (.int .i64 z):=by unfold intsV;rw[List.map_set]
theorem make_ints(n:Nat)(hn:n<=1000)(W:World):(Instr.makeSlice 40 (.int .i64 n) (.int .i64 n)).run Tryz.prog W= .ok (.slice (some ⟨W.heap.size,0,none⟩) n n) (W.alloc (.cells (List.replicate n (Value.int .i64 0)).toArray 3)):=by
 obtain⟨i0,hi,hz0,hz1,hz2⟩:=info_parts int_cell_info;have h:=run_make (P:=Tryz.prog) W 40 3 i0 (.int .i64 0) Tryz.underlying40 hi hz0 .i64 .i64 n n (by omega) (by omega) (by rw[hz2];omega) (by omega)
 rw[hz1]at h;have e:madeCells (Value.int .i64 0).cells (((n:Int)).toNat * 1)=(List.replicate n (Value.int .i64 0)).toArray:=by
  apply Array.toList_inj.mp
  rw[show(Value.int .i64 0).cells= #[Value.int .i64 0]from rfl,toList_madeCells_one]
  simp
 rw[e]at h;exact h
theorem most_spec(l:List Int):0<=most l/\(∀x∈l,x<=most l)/\(most l=0\/most l∈l):=foldl_max l 0
theorem most_sub{l l':List Int}(h: ∀x∈l,x∈l'):most l<=most l':=by
 rcases(most_spec l).2.2 with k|k
 ·rw[k];exact(most_spec l').1
 ·exact(most_spec l').2.1 _ (h _ k)
theorem most_same{l l':List Int}(h: ∀x,x∈l↔x∈l'):most l=most l':=Int.le_antisymm (most_sub fun x hx=>(h x).mp hx) (most_sub fun x hx=>(h x).mpr hx)
def farAt(W:List Int)(E:List (Int×Int))(x:Nat):Int:=(farK W E W.length).getD x 0
theorem far_step{W:List Int}{E:List (Int×Int)}(hF:Fits W.length E)(hA:Acyc E){x:Nat}(hx:x<W.length){l:List Nat}(hl: ∀a,a∈l↔ed E a x):
    farAt W E x=most (l.map (farAt W E))+W.getD x 0:=by
  obtain⟨m0,m1,m2⟩:=most_spec (l.map (farAt W E));have hS:=farK_sound hF W.length;apply Int.le_antisymm
  · obtain⟨r,h1,h2,h3⟩:=hS.2 x hx;have e:farAt W E x=wsum W (x::r):=h3.symm;rw[e];cases r with
    | nil =>
      simp only[wsum,List.map_cons,List.map_nil,List.sum_cons,List.sum_nil];omega
    | cons a r =>
      have hn:=length_below W.length (x::a::r) (h1.nodup hA) h2;simp only[List.length_cons]at hn;have h4:wsum W (a::r)<=farAt W E a:=farK_takes hF W.length a r h1.2 (by omega)
      have h5:=m1 (farAt W E a) (List.mem_map.mpr ⟨a,(hl a).mpr h1.1,rfl⟩);simp only[wsum,List.map_cons,List.sum_cons]at h4⊢;omega
  · rcases m2 with k|k
    · have h4:=farK_takes (W:=W) hF W.length x [] trivial (by simp)
      simp only[wsum,List.map_cons,List.map_nil,List.sum_cons,List.sum_nil]at h4;show _<=(farK W E W.length).getD x 0
      omega
    · obtain⟨a,ha,he⟩:=List.mem_map.mp k;have hed:=(hl a).mp ha;obtain⟨r,h1,h2,h3⟩:=hS.2 a (ed_lt hF hed).1;have hup:Up E (x::a::r):=⟨hed,h1⟩;have hin:In W.length (x::a::r):=fun y hy=>by
        rcases List.mem_cons.mp hy with rfl|hy
        · exact hx
        · exact h2 y hy
      have hn:=length_below W.length (x::a::r) (hup.nodup hA) hin;simp only[List.length_cons]at hn;have h4:=farK_takes (W:=W) hF W.length x (a::r) hup (by simp;omega)
      rw[<-he];show(farK W E W.length).getD a 0+_<=(farK W E W.length).getD x 0
      rw[<-h3];simp only[wsum,List.map_cons,List.sum_cons]at h4⊢;omega
theorem far_bound{W:List Int}{E:List (Int×Int)}(hF:Fits W.length E)(hA:Acyc E)(hW:WorkOk W){x:Nat}(hx:x<W.length):0<=farAt W E x/\farAt W E x<=1000 * W.length:=by
 have:=far_in hF hA hW W.length 0 x hx;exact this
theorem long_order{W:List Int}{E:List (Int×Int)}{out:List Nat}(h: ∀x,x∈out↔x<W.length):most (out.map (farAt W E))=most (farK W E W.length):=by
 apply most_same
 intro z;constructor
 ·intro hz
  obtain⟨x,hx,rfl⟩:=List.mem_map.mp hz;have hl:x<(farK W E W.length).length:=by rw[farK_length];exact(h x).mp hx
  unfold farAt;rw[List.getD_eq_getElem?_getD,List.getElem?_eq_getElem hl]
  exact List.getElem_mem hl
 ·intro hz
  obtain⟨x,hx,rfl⟩:=List.getElem_of_mem hz;refine List.mem_map.mpr ⟨x,(h x).mpr (by rw[farK_length]at hx;exact hx),?_⟩
  unfold farAt;rw[List.getD_eq_getElem?_getD,List.getElem?_eq_getElem hx]
  rfl
structure StL(b0 gb vb ub g n c:Nat)(A:Option Addr)(A':Option Addr)(W:List Int)(ol:List Int)(ps:List Nat)(us:List Int)(w':World):Prop where
 d0:w'.cell? ⟨b0,0,none⟩=some (.slice A n c)
 g0:w'.cell? ⟨gb,0,none⟩=some (.slice (some ⟨g,0,none⟩) n n)
 v0:w'.cell? ⟨vb,0,none⟩=some (.slice (some ⟨ub,0,none⟩) n n)
 row:RowN g ps w'
 up:RowV ub 3 (intsV us) w'
 ints:Ints w' ub A W
 out:Ints w' ub A' ol
 tab:Tab64 w'
 lb:b0<ub
 lg:gb<ub
 lr:g<ub
 lt:0<ub
 lv:ub<vb
section
variable {b0 gb vb ub g n c: Nat} {A A': Option Addr} {W: List Int} {E: List (Int × Int)} {ol: List Int} {ps: List Nat} {us: List Int}
theorem StL.next{w1 w2:World}(h:StL b0 gb vb ub g n c A A' W ol ps us w1)(hb:Below w1.heap.size w1 w2):StL b0 gb vb ub g n c A A' W ol ps us w2:=
  ⟨(hb.cell (World.block_lt_of_cell? _ _ h.d0)).trans h.d0, (hb.cell (World.block_lt_of_cell? _ _ h.g0)).trans h.g0, (hb.cell (World.block_lt_of_cell? _ _ h.v0)).trans h.v0, h.row.below hb h.row.lt, h.up.below hb h.up.lt,
    h.ints.below (hb.mono (Nat.le_of_lt h.up.lt)),h.out.below (hb.mono (Nat.le_of_lt h.up.lt)),h.tab.via hb,h.lb,h.lg,h.lr,h.lt,h.lv⟩
theorem StL.store{w1:World}(h:StL b0 gb vb ub g n c A A' W ol ps us w1)(j:Nat)(z:Int):StL b0 gb vb ub g n c A A' W ol ps (us.set j z) (w1.setCell ⟨ub,j,none⟩ (.int .i64 z)):=by
 have hb:Below ub w1 (w1.setCell ⟨ub,j,none⟩ (.int .i64 z)):=(Below.refl ub w1).setCell (Nat.le_refl _) _;refine⟨(hb.cell h.lb).trans h.d0,(hb.cell h.lg).trans h.g0,(World.cell?_setCell_other _ _ _ _ ?_).trans h.v0,h.row.below hb h.lr,by rw[intsV_set];exact h.up.set j _,h.ints.below hb,h.out.below hb,h.tab.below hb h.lt,h.lb,h.lg,h.lr,h.lt,h.lv⟩
 intro e;have h1:ub=vb:=congrArg Addr.block e;have:=h.lv;omega
theorem StL.cells{w':World}(h:StL b0 gb vb ub g n c A A' W ol ps us w'):w'.cell? ⟨b0,0,none⟩=some (.slice A n c)/\w'.cell? ⟨gb,0,none⟩=some (.slice (some ⟨g,0,none⟩) n n)/\w'.cell? ⟨vb,0,none⟩=some (.slice (some ⟨ub,0,none⟩) n n):=⟨h.d0,h.g0,h.v0⟩
theorem sum_any(x:Nat)(w:World)(hn:W.length=n)(hl:n<=64)(hx:x<n)(hF:Fits n E)(hW:WorkOk W)(hPS:PredsOf n E ps)(hus:us.length=n)(hub: ∀y,y<n->0<=us.getD y 0/\us.getD y 0<=64000)(h:StL b0 gb vb ub g n c A A' W ol ps us w):
  Calls Tryz.prog 92 #[.int .i64 x,.pointer (some ⟨gb,0,none⟩),.pointer (some ⟨vb,0,none⟩),.pointer (some ⟨b0,0,none⟩)] w fun e w'=>e= .returned (.int .i64 (most ((bitsL (ps.getD x 0)).map fun p=>us.getD p 0)+W.getD x 0))/\Below w.heap.size w w':=by
 obtain⟨z,hz⟩: ∃z,W[x]? =some z:=⟨_,List.getElem?_eq_getElem (by rw[hn];exact hx)⟩
 have hzd:W.getD x 0=z:=by rw[List.getD_eq_getElem?_getD,hz];rfl
 have hz2:=hW z (List.mem_of_getElem? hz)
 rw[hzd];have hrow:=h.row.cell (natsV_at (ps:=ps) (j:=x) (by rw[hPS.len];exact hx))
 have C:=Lib.hid (set_row (ps.getD x 0) w (hPS.lt x hx) h.tab);have HMEM:=Lib.hid (fun p (hp:p∈bitsL (ps.getD x 0))=>(ed_lt hF (of_decide_eq_true ((hPS.bit x hx p).symm.trans (mem_bitsL.mp hp).2))).1)
 have HLEN:=Lib.hid (bitsL_length (ps.getD x 0));obtain⟨l,hll⟩: ∃l,l=bitsL (ps.getD x 0):=⟨_,rfl⟩;obtain⟨p0,hp0⟩: ∃p,p=ps.getD x 0:=⟨_,rfl⟩;rw[<-hll]at C HMEM HLEN⊢;rw[<-hp0]at C hrow;obtain⟨lf,hlf⟩: ∃lf,lf=l.map fun p=>us.getD p 0:=⟨_,rfl⟩
 have HLF:=Lib.hid hlf;rw[<-hlf];obtain⟨k,hk⟩: ∃k,k=l.length:=⟨_,rfl⟩;have HK:=Lib.hid hk;have HKN:=Lib.hid (show(nums l).length=k by rw[nums_length,hk])
 have HFK:=Lib.hid (show lf.length=k by rw[hlf,List.length_map,hk])
 obtain⟨mv,hmv⟩: ∃mv,mv=most lf:=⟨_,rfl⟩;rw[<-hmv];have HMV:=Lib.hid hmv;have hk64:k<=64:=by rw[hk];exact HLEN.out
 have HS:=Lib.hid h;have HZ:=Lib.hid hz;have HN:=Lib.hid hn;have HUS:=Lib.hid hus;have HUB:=Lib.hid hub;obtain⟨c1,c2,c3⟩:=h.cells;have hgl:=h.row.lt;clear hF hW hPS hus hub h hz hzd hn hll hp0 hlf hk hmv;go_enter Tryz.func92,Tryz.ntmps92
 go_wp2_with(go_at_call 93;refine C.out.mono ?_;rintro e w1 ⟨A3,c3',rfl,hI,b⟩;have HI:=Lib.hid hI;have HB:=Lib.hid b;have HNL:(nums l).length=k:=HKN.out;clear hI b)
 have HS1:=Lib.hid (HS.out.next HB.out);clear c1 c2 c3 hgl hrow C;obtain⟨c1,c2,c3⟩:=HS1.out.cells;go_loop [6,16] (fun s i=> ∃(j:Nat) (v:Int),j<=k/\i= .int .i64 j/\0<=v/\v<=64000/\Hid (v=most (lf.take j))/\s= .int .i64 v) (fun _ i=>k - (intOf i).toNat)
 case atStart=>exact⟨0,0,Nat.zero_le _,by simp,by omega,by omega,Lib.hid rfl,rfl⟩
 case round=>
  obtain⟨j,v,hj,rfl,hv0,hv1,hve,rfl⟩:=hrel
  by_cases hlt:j<k
  ·obtain ⟨bk,o,q,rfl,hbg,hqj,hc1⟩:=HI.out.at_ (k:=j) (by rw [HKN.out]; exact hlt)
   obtain⟨p,rfl,hp⟩:=nums_get hqj;have hpn:=HMEM.out p (List.mem_of_getElem? hp)
   have hcu:=HS1.out.up.cell (intsV_at (l:=us) (j:=p) (by rw[HUS.out];exact hpn))
   have hub:=HUB.out p hpn;have hfj:lf[j]? =some (us.getD p 0):=by rw[HLF.out,List.getElem?_map,hp];rfl
   have HMS:=Lib.hid (most_snoc hfj);have hul:=HS1.out.up.lt;obtain⟨u,hu⟩: ∃u,u=us.getD p 0:=⟨_,rfl⟩;rw[<-hu]at hcu hub HMS;clear hqj hp hfj hu
   by_cases hvz:v<u
   ·have HMX:=Lib.hid (show u = most (lf.take (j + 1)) by rw [HMS.out,<- hve.out,Int.max_eq_right (by omega)])
    go_wp2;go_round
    case rel=>exact⟨j+1,u,by omega,by go_num,by omega,by omega,HMX,by first|rfl|(simp;omega)⟩
    case measure=>simp[intOf];omega
   ·have HMX:=Lib.hid (show v = most (lf.take (j + 1)) by rw [HMS.out,<- hve.out,Int.max_eq_left (by omega)])
    go_wp2;go_round
    case rel=>exact⟨j+1,v,by omega,by go_num,by omega,by omega,HMX,by first|rfl|(simp;omega)⟩
    case measure=>simp[intOf];omega
  ·obtain rfl: j = k:=by omega
   have hl2:lf.take j=lf:=List.take_of_length_le (by rw[HFK.out];omega)
   rw[hl2]at hve;obtain⟨bw,ow,z2,hA2,hbw,hzx,hcz⟩:=HS1.out.ints.at_ (k:=x) (by rw[HN.out];exact hx)
   obtain rfl:z2=z:=by
    have:=HZ.out;rw[hzx]at this;exact Option.some.inj this
   subst hA2;clear hzx;go_wp2;go_ret;exact⟨by rw[HMV.out,<-hve.out];rfl,HB.out⟩
end
section
variable {A: Option Addr} {n c: Nat} {F: Option Addr} {m d: Nat} {W: List Int} {E: List (Int × Int)}
theorem preds_far{ps:List Nat}{us:List Int}{out:List Nat}(hO:Ordered n E out)(hP:PredsOf n E ps)(hn:n<=64)(hF:Fits n E){j x:Nat}(hx:out[j]? =some x)(hu: ∀y∈out.take j,us.getD y 0=farAt W E y):
  ((bitsL (ps.getD x 0)).map fun p=>us.getD p 0)=(bitsL (ps.getD x 0)).map (farAt W E):=by
 apply List.map_congr_left
 intro p hp;have hxn:x<n:=hO.lt x (List.mem_of_getElem? hx)
 have he:ed E p x:=of_decide_eq_true ((hP.bit x hxn p).symm.trans (mem_bitsL.mp hp).2);obtain⟨hj,e⟩:=List.getElem?_eq_some_iff.mp hx
 exact hu p (hO.behind j hj p (by rw[e];exact he))
theorem mem_preds{ps:List Nat}(hP:PredsOf n E ps)(hn:n<=64)(hF:Fits n E){x:Nat}(hx:x<n)(a:Nat):a∈bitsL (ps.getD x 0)↔ed E a x:=by
 rw[mem_bitsL,hP.bit x hx a,decide_eq_true_iff];constructor
 ·exact And.right
 ·intro h
  have:=ed_lt hF h;exact⟨by omega,h⟩
theorem StL.start{b0 g n c:Nat}{A A':Option Addr}{c':Nat}{W ol:List Int}{ps:List Nat}{w1:World}(hb:b0<w1.heap.size)(h0:w1.cell? ⟨b0,0,none⟩=some (.slice A n c))(hr:RowN g ps w1)(hi:Ints w1 w1.heap.size A W)(ho:Ints w1 w1.heap.size A' ol)(hT:Tab64 w1):
  StL b0 w1.heap.size (w1.heap.size+1+1) (w1.heap.size+1) g n c A A' W ol ps (List.replicate n 0) (((w1.alloc (.cells #[.slice (some ⟨g,0,none⟩) n n,.slice A' n c'] 122)).alloc (.cells (Array.replicate n (Value.int .i64 0)) 3)).alloc (.cells #[.slice (some ⟨w1.heap.size+1,0,none⟩) n n] 40)):=by
 obtain⟨w2,h2⟩: ∃w2,w2=w1.alloc (.cells #[.slice (some ⟨g,0,none⟩) n n,.slice A' n c'] 122):=⟨_,rfl⟩;obtain⟨w3,h3⟩: ∃w3,w3=w2.alloc (.cells (Array.replicate n (Value.int .i64 0)) 3):=⟨_,rfl⟩;obtain⟨w4,h4⟩: ∃w4,w4=w3.alloc (.cells #[.slice (some ⟨w1.heap.size+1,0,none⟩) n n] 40):=⟨_,rfl⟩;rw[<-h2,<-h3,<-h4];have s2:w2.heap.size=w1.heap.size+1:=by rw[h2];simp
 have s3:w3.heap.size=w1.heap.size+1+1:=by rw[h3];simp[s2]
 have s4:w4.heap.size=w1.heap.size+1+1+1:=by rw[h4];simp[s3]
 have b3:Below w3.heap.size w3 w4:=by rw[h4];exact below_alloc _
 have b2:Below w2.heap.size w2 w4:=(by rw[h3];exact below_alloc _:Below w2.heap.size w2 w3).trans (b3.mono (by omega))
 have b1:Below w1.heap.size w1 w4:=(by rw[h2];exact below_alloc _:Below w1.heap.size w1 w2).trans (b2.mono (by omega))
 have hu:RowV (w1.heap.size+1) 3 (intsV (List.replicate n 0)) w3:=by
  have e:(intsV (List.replicate n 0)).toArray=Array.replicate n (Value.int .i64 0):=by simp[intsV]
  unfold RowV;rw[e,h3,<-s2];exact heap_alloc_new w2 _
 have:=hT.lt;have:=hr.lt;refine⟨(b1.cell hb).trans h0,?_,?_,hr.below b1 hr.lt,hu.below b3 (by omega),(hi.below b1).more (by omega),(ho.below b1).more (by omega),hT.via b1,by omega,by omega,by omega,by omega,by omega⟩
 ·refine (b2.cell (by show w1.heap.size < _; omega)).trans ?_
  rw[h2,World.cell?_alloc_at _ _ _ _ rfl];rfl
 ·rw[h4,World.cell?_alloc_at _ _ _ _ s3.symm];rfl
theorem long_done(w:World)(h:IsG w A n c F m d W E):
  Calls Tryz.prog 59 #[.agg #[.slice A n c,.slice F m d]] w fun e w'=>e= .returned (.int .i64 (longV W E))/\Below w.heap.size w w':=by
 have H:=Lib.hid h
 by_cases hM:May W E
 ·have C:=Lib.hid (fun w' (h: IsG w' A n c F m d W E) => read_ok w' h hM)
  have hF:Fits n E:=by rw[<-h.hn];exact hM.fits
  have hn64:n<=64:=by rw[<-h.hn];exact hM.nodes
  have HF:=Lib.hid hF;have HN:=Lib.hid h.hn;have HM:=Lib.hid hM;have HORD:=Lib.hid (ordK_ordered hF n);have HOL:=Lib.hid (show(ord n E).length=n from ordK_length hF hM.acyc n (Nat.le_refl _))
  have hmk:=fun W'=>make_ints n (by omega) W'
  have HT:=Lib.hid (show longV W E=most ((ord n E).map (farAt W E)) by
   unfold longV;rw[if_pos hM,long_order];intro x;rw[h.hn];exact⟨(ordK_ordered hF n).lt x,fun hx=>(ordK_ordered hF n).all (ordK_length hF hM.acyc n (Nat.le_refl _)) x hx⟩)
  obtain⟨r,hr⟩: ∃r,r=longV W E:=⟨_,rfl⟩;rw[<-hr]at HT⊢;clear h hM hr hF;go_enter Tryz.func59,Tryz.ntmps59;go_wp2_with fail;refine(C.out _ (H.out.below (below_alloc _))).mono ?_
  rintro e w1 ⟨g,A',c',rfl,hR⟩;have HB:=Lib.hid ((below_alloc (w:=w) (.cells #[.slice A n c,.slice F m d] 88)).trans (hR.bel.mono (by simp)))
  have HR:=Lib.hid hR;have HG:=Lib.hid ((H.out.below (below_alloc (.cells #[.slice A n c,.slice F m d] 88))).below hR.bel);have hs1:w.heap.size<w1.heap.size:=by have:=hR.bel.size;simp at this;exact this
  have hbox0:w1.cell? ⟨w.heap.size,0,none⟩=some (.slice A n c):=(hR.bel.cell (by simp)).trans (by rw[World.cell?_alloc_at _ _ _ _ rfl];rfl)
  clear hR;go_wp2;obtain⟨ps,hV,hPS⟩:=HR.out.row;have HPS:=Lib.hid hPS;have H0:=Lib.hid (StL.start (c':=c') hs1 hbox0 hV HG.out.ints HR.out.ints HG.out.tab);have HB0:=Lib.hid (((below_alloc (w:=w1) (.cells #[.slice (some ⟨g,0,none⟩) n n,.slice A' n c'] 122)).alloc (by simp) (.cells (Array.replicate n (Value.int .i64 0)) 3)).alloc (by simp;omega) (.cells #[.slice (some ⟨w1.heap.size+1,0,none⟩) n n] 40))
  have HBND:=Lib.hid (fun x (hx:x<n)=>far_bound (by rw[HN.out];exact HF.out) HM.out.acyc HM.out.work (x:=x) (by rw[HN.out];exact hx))
  obtain⟨b0,hb0⟩: ∃b0,b0=w.heap.size:=⟨_,rfl⟩;obtain⟨gb,hgb⟩: ∃gb,gb=w1.heap.size:=⟨_,rfl⟩;clear hV hPS hbox0;go_loopw [7,25] (fun s i wr=> ∃(j:Nat) (v:Int) (us:List Int),j<=n/\i= .int .i64 j/\0<=v/\v<=64000/\s= .int .i64 v/\Hid (v=most (((ord n E).map (farAt W E)).take j))/\Hid (us.length=n)/\Hid (∀y,y<n->0<=us.getD y 0/\us.getD y 0<=64000)/\Hid (∀y∈(ord n E).take j,us.getD y 0=farAt W E y)/\Hid (StL w.heap.size w1.heap.size (w1.heap.size+1+1) (w1.heap.size+1) g n c A A' W (nums (ord n E)) ps us wr)/\Hid (Below w1.heap.size w1 wr)) (fun _ i _=>n - (intOf i).toNat)
  case atStart=>exact⟨0,0,_,Nat.zero_le _,rfl,by omega,by omega,rfl,Lib.hid rfl,Lib.hid (by simp),Lib.hid (fun y hy=>by simp[List.getD_eq_getElem?_getD,hy]),Lib.hid (fun y hy=>by simp at hy),H0,HB0⟩
  case round=>
   obtain⟨j,v,us,hj,rfl,hv0,hv1,rfl,hve,HUL,HUB,HUF,HS,HB1⟩:=hrel;clear H0 HB0
   by_cases hlt:j<n
   ·obtain ⟨bk,o,z,rfl,hbg,hzj,hc1⟩:=HS.out.out.at_ (k:=j) (by rw [nums_length,HOL.out]; exact hlt)
    obtain⟨x,rfl,hx⟩:=nums_get hzj;have hxn:x<n:=HORD.out.lt x (List.mem_of_getElem? hx)
    have hv:=preds_far HORD.out HPS.out hn64 HF.out hx HUF.out;have hfs:=far_step (by rw[HN.out];exact HF.out) HM.out.acyc (x:=x) (by rw[HN.out];exact hxn) (l:=bitsL (ps.getD x 0)) (mem_preds HPS.out hn64 HF.out hxn)
    have C2:=Lib.hid (fun W' (hs:StL w.heap.size w1.heap.size (w1.heap.size+1+1) (w1.heap.size+1) g n c A (some ⟨bk,o,none⟩) W (nums (ord n E)) ps us W')=>sum_any x W' HN.out hn64 hxn HF.out HM.out.work HPS.out HUL.out HUB.out hs)
    simp only[hv,<-hfs]at C2;have hfb:=HBND.out x hxn;have hfj:((ord n E).map (farAt W E))[j]? =some (farAt W E x):=by rw[List.getElem?_map,hx];rfl
    have HMS:=Lib.hid (most_snoc hfj);have HTK:=Lib.hid (take_snoc' hx);obtain⟨fx,hfx⟩: ∃fx,fx=farAt W E x:=⟨_,rfl⟩;have HFX:=Lib.hid hfx;rw[<-hfx]at hfb HMS;simp only[<-hfx]at C2;rw[HN.out]at hfb;have hxu:x<us.length:=by rw[HUL.out];exact hxn
    have HU2:Hid (∀y,y<n->0<=(us.set x fx).getD y 0/\(us.set x fx).getD y 0<=64000):=Lib.hid (fun y hy=>by
     rw[getD_set]
     split
     ·omega
     ·exact HUB.out y hy)
    have HF2:Hid (∀y∈(ord n E).take (j+1),(us.set x fx).getD y 0=farAt W E y):=Lib.hid (fun y hy=>by
     rw[getD_set]
     split
     ·rename_i k
      rw[<-k.1];exact HFX.out
     ·rename_i k
      rw[HTK.out]at hy;rcases List.mem_append.mp hy with hy|hy
      ·exact HUF.out y hy
      ·obtain rfl: y = x:=by simpa using hy
       exact absurd ⟨rfl,hxu⟩ k)
    clear hzj hx hv hfs hfj hfx hxu;obtain⟨c1,c2,c3⟩:=HS.out.cells;go_wp2_with fail
    go_region_with (go_at_call 92;refine(C2.out _ (HS.out.next ((Below.refl _ _).drew))).mono ?_;rintro e w5 ⟨rfl,b⟩;have HS5:=Lib.hid ((HS.out.next ((Below.refl _ _).drew)).next b);have HB5:=Lib.hid b;have d3:=HS5.out.v0;have hul5:=HS5.out.up.lt;have hfr5:=HS5.out.up.frozen x;have hcx5:=HS5.out.up.cell (intsV_at (l:=us) (j:=x) (by rw[HUL.out];exact hxn));clear b)
    all_goals
     have HS6:=Lib.hid (HS5.out.store x fx);have e3:=HS6.out.v0;have hgx:(us.set x fx).getD x 0=fx:=by rw[getD_set,if_pos ⟨rfl,by rw[HUL.out];exact hxn⟩]
     have e4:=HS6.out.up.cell (intsV_at (l:=us.set x fx) (j:=x) (by rw[List.length_set,HUL.out];exact hxn))
     rw[hgx]at e4;clear hgx d3 hcx5
     by_cases hvz:v<fx
     ·have HMX:=Lib.hid (show fx = most (((ord n E).map (farAt W E)).take (j + 1)) by rw [HMS.out,<- hve.out,Int.max_eq_right (by omega)])
      go_wp2;go_roundw
      case rel=>exact⟨j+1,fx,us.set x fx,by omega,by go_num,by omega,by omega,(by first|rfl|rw[Int.max_eq_right (by omega)]),HMX,Lib.hid (by rw[List.length_set];exact HUL.out),HU2,HF2,HS6,Lib.hid ((HB1.out.trans (((Below.refl _ _).drew.trans HB5.out).mono HB1.out.size)).setCell (by show w1.heap.size<=w1.heap.size+1;omega) _)⟩
      case measure=>simp[intOf];omega
     ·have HMX:=Lib.hid (show v = most (((ord n E).map (farAt W E)).take (j + 1)) by rw [HMS.out,<- hve.out,Int.max_eq_left (by omega)])
      go_wp2;go_roundw
      case rel=>exact⟨j+1,v,us.set x fx,by omega,by go_num,by omega,by omega,(by first|rfl|rw[Int.max_eq_left (by omega)]),HMX,Lib.hid (by rw[List.length_set];exact HUL.out),HU2,HF2,HS6,Lib.hid ((HB1.out.trans (((Below.refl _ _).drew.trans HB5.out).mono HB1.out.size)).setCell (by show w1.heap.size<=w1.heap.size+1;omega) _)⟩
      case measure=>simp[intOf];omega
   ·obtain rfl: j = n:=by omega
    have hl2:((ord j E).map (farAt W E)).take j=(ord j E).map (farAt W E):=List.take_of_length_le (by rw[List.length_map,HOL.out];exact Nat.le_refl _)
    rw[hl2]at hve;go_wp2;go_ret;exact⟨by rw[HT.out,<-hve.out];rfl,HB.out.trans (HB1.out.mono HB.out.size)⟩
 ·have C:=Lib.hid (fun w' (h: IsG w' A n c F m d W E) => read_not w' h hM)
  have HO:longV W E=0:=by unfold longV;rw[if_neg hM]
  rw[HO];have hc:(chkE W E !=0)=true:=by
   rw[bne_iff_ne];exact fun q=>hM (chkE_zero.mp q)
  obtain⟨r,hr⟩: ∃r,r=chkE W E:=⟨_,rfl⟩;rw[<-hr]at C hc;clear h hM hr HO;go_enter Tryz.func59,Tryz.ntmps59;go_wp2_with fail;refine(C.out _ (H.out.below (below_alloc _))).mono ?_
  rintro e w1 ⟨rfl,b⟩;have HB:=Lib.hid ((below_alloc _).trans (b.mono (by simp)))
  clear b;go_wp2;go_ret;exact⟨rfl,HB.out.alloc HB.out.size _⟩
end
end Go.Proofs.YtlfekmbalgkmeaaGreatDoor
namespace Go.Proofs.YtlfekmbalgkmeaaGreatDoor
theorem touL_cnt{ps fs:List (Int×Int×Int)}(hps:partsOk ps)(hf:FutsOk ps fs)(x:Nat):(touL fs (x:Int)).length=((List.range fs.length).filter fun k=>decide ((futAt fs k).2.1=(x:Int))).length:=by
 have hn:(touL fs (x:Int)).Nodup:=touK_nodup fs (x:Int) 99;refine((List.perm_ext_iff_of_nodup hn (List.Nodup.sublist List.filter_sublist List.nodup_range)).mpr fun k=> ?_).length_eq
 rw[List.mem_filter,List.mem_range,decide_eq_true_iff];constructor
 ·intro h
  have:=mem_touK.mp h;exact⟨this.1,this.2.1⟩
 ·rintro ⟨h1,h2⟩
  have h:=fut_mem hps hf h1
  rwa [h2]at h
theorem split_cnt(u:Nat->Int)(n:Nat): ∀l:List Nat,(l.filter fun k=>decide (u k<((n+1:Nat):Int))).length=(l.filter fun k=>decide (u k<(n:Int))).length+(l.filter fun k=>decide (u k=(n:Int))).length
  | []=>rfl
  | k :: l => by
    have ih:=split_cnt u n l;have h0:(u k<((n+1:Nat):Int))↔(u k<(n:Int)\/u k=(n:Int)):=by omega
    by_cases h1:u k<(n:Int)
    · have e1:decide (u k<((n+1:Nat):Int))=true:=decide_eq_true (h0.mpr (.inl h1));have e2:decide (u k<(n:Int))=true:=decide_eq_true h1;have e3:decide (u k=(n:Int))=false:=decide_eq_false (by omega)
      rw[List.filter_cons,List.filter_cons,List.filter_cons,if_pos e1,if_pos e2,if_neg (by rw[e3];exact Bool.false_ne_true),List.length_cons,List.length_cons]
      omega
    · by_cases h3:u k=(n:Int)
      · have e1:decide (u k<((n+1:Nat):Int))=true:=decide_eq_true (h0.mpr (.inr h3));have e2:decide (u k<(n:Int))=false:=decide_eq_false h1;have e3:decide (u k=(n:Int))=true:=decide_eq_true h3;rw[List.filter_cons,List.filter_cons,List.filter_cons,if_pos e1,if_neg (by rw[e2];exact Bool.false_ne_true),if_pos e3,List.length_cons,List.length_cons]
        omega
      · have e1:decide (u k<((n+1:Nat):Int))=false:=decide_eq_false (fun h=>by rcases h0.mp h with h|h;exact h1 h;exact h3 h)
        have e2:decide (u k<(n:Int))=false:=decide_eq_false h1;have e3:decide (u k=(n:Int))=false:=decide_eq_false h3;rw[List.filter_cons,List.filter_cons,List.filter_cons,if_neg (by rw[e1];exact Bool.false_ne_true),if_neg (by rw[e2];exact Bool.false_ne_true),if_neg (by rw[e3];exact Bool.false_ne_true)]
        exact ih
theorem firN_sum{ps fs:List (Int×Int×Int)}(hps:partsOk ps)(hf:FutsOk ps fs): ∀n,firN fs n=n+((List.range fs.length).filter fun k=>decide ((futAt fs k).2.1<(n:Int))).length
  | 0 => by
    rw[firN,List.filter_eq_nil_iff.mpr]
    · rfl
    · intro k hk;have hk':k<fs.length:=List.mem_range.mp hk;have e:futAt fs k=fs[k]:=by unfold futAt;rw[List.getD_eq_getElem?_getD,List.getElem?_eq_getElem hk'];rfl
      have:=(hf.each fs[k] (List.getElem_mem hk')).user.1;rw[e];simp;omega
  | n + 1 => by
    rw[firN,firN_sum hps hf n,split_cnt (fun k=>(futAt fs k).2.1) n]
    unfold nst;rw[touL_cnt hps hf n];omega
theorem firN_all{ps fs:List (Int×Int×Int)}(hps:partsOk ps)(hf:FutsOk ps fs):firN fs ps.length=ps.length+fs.length:=by
 rw[firN_sum hps hf,List.filter_eq_self.mpr,List.length_range];intro k hk;have hk':k<fs.length:=List.mem_range.mp hk;have e:futAt fs k=fs[k]:=by unfold futAt;rw[List.getD_eq_getElem?_getD,List.getElem?_eq_getElem hk'];rfl
 have:=(hf.each fs[k] (List.getElem_mem hk')).user.2;rw[e,decide_eq_true_iff];exact this
theorem lowW_len{T:Task}(hM:MayT T):(lowW T).length=T.parts.length+T.futures.length+T.bars.length:=by
 unfold lowW;rw[List.length_append,wPs_len,firN_all hM.parts hM.futures,List.length_replicate]
theorem lowP_len{T:Task}(hM:MayT T):(lowP T).length=T.parts.length+T.futures.length+T.bars.length:=by
 unfold lowP;rw[List.length_append,pPs_len,firN_all hM.parts hM.futures,List.length_map,List.length_range]
theorem low_few{T:Task}(hM:MayT T):(lowW T).length<=36/\(lowE T).length<=400/\(lowP T).length<=36:=by
 have hfew:=hM.few;unfold ManyT at hfew;have h1:=ePs_len T.futures T.parts.length;have h2:=firN_all hM.parts hM.futures;have h3:=bEs_len T.futures T.bars (firN T.futures T.parts.length) 16 (fun b hb=>by
  have h:=hM.bars b hb;have k1:=row_len' h.ins;have k2:=row_len' h.outs;omega) T.bars.length
 have h4:T.bars.length * (2 * 16)<=4 * 32:=Nat.mul_le_mul (by omega) (by omega)
 refine⟨by rw[lowW_len hM];omega,?_,by rw[lowP_len hM];omega⟩
 unfold lowE;rw[List.length_append,List.length_append,List.length_append,List.length_map,List.length_map,List.length_range];omega
def LowOk(T:Task):Prop:=MayT T/\May (lowW T) (lowE T)
open Classical in
noncomputable def lowX (T:Task):Int:=if MayT T then(if May (lowW T) (lowE T)then 0 else 70)else chkT T
open Classical in
noncomputable def lowWv (T:Task):List Int:=if LowOk T then lowW T else []
open Classical in
noncomputable def lowEv (T:Task):List (Int×Int):=if LowOk T then lowE T else []
open Classical in
noncomputable def lowPv (T:Task):List (Int×Int):=if LowOk T then lowP T else []
theorem lowX_zero{T:Task}:lowX T=0↔LowOk T:=by
 unfold lowX LowOk
 by_cases h1:MayT T
 ·rw [if_pos h1]
  by_cases h2:May (lowW T) (lowE T)
  ·rw[if_pos h2];exact⟨fun _=>⟨h1,h2⟩,fun _=>rfl⟩
  ·rw[if_neg h2];exact⟨fun h=>by omega,fun h=>absurd h.2 h2⟩
 ·rw [if_neg h1]
  exact⟨fun h=>absurd (chkT_zero.mp h) h1,fun h=>absurd h.1 h1⟩
end Go.Proofs.YtlfekmbalgkmeaaGreatDoor
namespace Go.Proofs.YtlfekmbalgkmeaaGreatDoor
open Go.RowKit
def GotLow(T:Task)(w:World)(e:Ending)(w':World):Prop:=∃ vW vE vP,e= .returned (.tuple #[.agg #[vW,vE,vP],.int .i64 (lowX T)])/\OwnI w' w.heap.size vW (lowWv T)/\OwnE w' w.heap.size vE (lowEv T)/\OwnP w' w.heap.size vP (lowPv T)/\Below w.heap.size w w'
theorem gotLow_no{T:Task}{w w':World}{n:Int}(hn:n=lowX T)(h0:lowX T≠0)(hb:Below w.heap.size w w'):GotLow T w (.returned (.tuple #[.agg #[.slice none 0 0,.slice none 0 0,.slice none 0 0],.int .i64 n])) w':=by
 have hN: ¬LowOk T:=fun h=>h0 (lowX_zero.mpr h)
 refine⟨_,_,_,by rw[hn],?_,?_,?_,hb⟩
 ·rw[show lowWv T= [] by unfold lowWv;rw[if_neg hN]];exact⟨rfl,.inl ⟨rfl,rfl⟩⟩
 ·rw[show lowEv T= [] by unfold lowEv;rw[if_neg hN]];exact⟨rfl,.inl ⟨rfl,rfl⟩⟩
 ·rw[show lowPv T= [] by unfold lowPv;rw[if_neg hN]];exact⟨rfl,.inl ⟨rfl,rfl⟩⟩
theorem lower_bad(s:Sh)(T:Task)(w:World)(hD:IsD w s T)(hM: ¬MayT T):Calls Tryz.prog 57 #[s.arg T.period T.deadline] w (GotLow T w):=by
 obtain⟨P,np,pc,E,ne,ec,F,nf,fc,R,nr,rc⟩:=s;have hx:lowX T=chkT T:=by unfold lowX;rw[if_neg hM]
 have h0:chkT T≠0:=fun h=>hM (chkT_zero.mp h)
 have hr:(chkT T !=0)=true:=bne_iff_ne.mpr h0;have C:=fun W (h:IsD W ⟨P,np,pc,E,ne,ec,F,nf,fc,R,nr,rc⟩ T)=>check_any5 ⟨P,np,pc,E,ne,ec,F,nf,fc,R,nr,rc⟩ T W h
 obtain⟨r,hrr⟩: ∃r,r=chkT T:=⟨_,rfl⟩;rw[<-hrr]at C hx h0 hr;have HC:=Lib.hid C;have HX:=Lib.hid hx;have H0:=Lib.hid h0;have B0:=Lib.hid (BxI.start hD T.period T.deadline);simp only[Sh.arg]at HC⊢;obtain⟨wA,hwA⟩: ∃wA,wA=w.alloc (.cells #[.int .i64 T.period,.int .i64 T.deadline,.slice P np pc,.slice E ne ec,.slice F nf fc,.slice R nr rc] 57):=⟨_,rfl⟩;obtain⟨wB,hwB⟩: ∃wB,wB=wA.alloc (.cells #[.slice none 0 0,.slice none 0 0,.slice none 0 0] 91):=⟨_,rfl⟩;rw[<-hwA]at B0;have hbB:Below wA.heap.size wA wB:=by rw[hwB];exact below_alloc _
 have sA:wA.heap.size=w.heap.size+1:=by rw[hwA];simp
 have rB:wB.heap[w.heap.size+1]? =some (.cells #[.slice none 0 0,.slice none 0 0,.slice none 0 0] 91 (0,0)):=by rw[hwB,<-sA];exact heap_alloc_new wA _
 have sB:wB.heap.size=w.heap.size+2:=by rw[hwB];simp[sA]
 have B1:=Lib.hid (B0.out.next hbB);have HRB:=Lib.hid rB;have HSB:=Lib.hid sB;have HW:=Lib.hid (And.intro hwA hwB);clear hD hM hx h0 C hrr hwA hwB B0 hbB rB sA sB;go_enter Tryz.func57,Tryz.ntmps57;go_wp2_with fail;rw[<-HW.out.1,<-HW.out.2];clear HW;refine(HC.out _ B1.out.d).mono ?_
 rintro e w1 ⟨rfl,b1⟩;have HBW:=Lib.hid (B1.out.b.bel.trans (b1.mono B1.out.b.bel.size));have hrb:=(b1.block (w.heap.size+1) (by rw[HSB.out];omega)).trans HRB.out
 have y0:=cell_of_row w1 (w.heap.size+1) 0 _ _ _ hrb;have y1:=cell_of_row w1 (w.heap.size+1) 1 _ _ _ hrb;have y2:=cell_of_row w1 (w.heap.size+1) 2 _ _ _ hrb;simp at y0 y1 y2;have z0:=frozen_of_row w1 (w.heap.size+1) 0 _ _ hrb;have z1:=frozen_of_row w1 (w.heap.size+1) 1 _ _ hrb;have z2:=frozen_of_row w1 (w.heap.size+1) 2 _ _ hrb;have HRW:=Lib.hid hrb;clear hrb b1;go_wp2;have h1:=heap_setCell_same w1 (w.heap.size+1) 0 _ _ (.slice none 0 0) HRW.out;have h2:=heap_setCell_same _ (w.heap.size+1) 1 _ _ (.slice none 0 0) h1;have h3:=heap_setCell_same _ (w.heap.size+1) 2 _ _ (.slice none 0 0) h2;obtain⟨x2,hx2⟩: ∃x2,x2=((w1.setCell ⟨w.heap.size+1,0,none⟩ (.slice none 0 0)).setCell ⟨w.heap.size+1,1,none⟩ (.slice none 0 0)).setCell ⟨w.heap.size+1,2,none⟩ (.slice none 0 0):=⟨_,rfl⟩;rw[<-hx2]at h3⊢;have hle:w.heap.size<=w.heap.size+1:=Nat.le_succ _;have hbx:Below w.heap.size w1 x2:=by
  rw[hx2];exact(((Below.refl _ w1).setCell hle _).setCell hle _).setCell hle _
 have k0:=cell_of_row x2 (w.heap.size+1) 0 _ _ _ h3;have k1:=cell_of_row x2 (w.heap.size+1) 1 _ _ _ h3;have k2:=cell_of_row x2 (w.heap.size+1) 2 _ _ _ h3;simp at k0 k1 k2;clear hx2;refine bodyPost_ret (v:=.tuple #[.agg #[.slice none 0 0,.slice none 0 0,.slice none 0 0],.int .i64 r]) ?_ rfl (gotLow_no HX.out.symm (by rw[HX.out];exact H0.out) (HBW.out.trans hbx))
 rw[results_cell_tmp rfl]
 go_simp
theorem lower_may(s:Sh)(T:Task)(w:World)(hD:IsD w s T)(hM:MayT T):Calls Tryz.prog 57 #[s.arg T.period T.deadline] w (GotLow T w):=by
 obtain⟨P,np,pc,E,ne,ec,F,nf,fc,R,nr,rc⟩:=s;have C:=fun W (h:IsD W ⟨P,np,pc,E,ne,ec,F,nf,fc,R,nr,rc⟩ T)=>check_any5 ⟨P,np,pc,E,ne,ec,F,nf,fc,R,nr,rc⟩ T W h
 rw[chkT_zero.mpr hM]at C;have HC:=Lib.hid C;have HL:=Lib.hid (fun W (h:IsD W ⟨P,np,pc,E,ne,ec,F,nf,fc,R,nr,rc⟩ T)=>lay_any ⟨P,np,pc,E,ne,ec,F,nf,fc,R,nr,rc⟩ T W h hM)
 have HM:=Lib.hid hM;have HFEW:=Lib.hid (low_few hM);have B0:=Lib.hid (BxI.start hD T.period T.deadline);simp only[Sh.arg]at HC HL⊢;obtain⟨wA,hwA⟩: ∃wA,wA=w.alloc (.cells #[.int .i64 T.period,.int .i64 T.deadline,.slice P np pc,.slice E ne ec,.slice F nf fc,.slice R nr rc] 57):=⟨_,rfl⟩;obtain⟨wB,hwB⟩: ∃wB,wB=wA.alloc (.cells #[.slice none 0 0,.slice none 0 0,.slice none 0 0] 91):=⟨_,rfl⟩;rw[<-hwA]at B0;have hbB:Below wA.heap.size wA wB:=by rw[hwB];exact below_alloc _
 have sA:wA.heap.size=w.heap.size+1:=by rw[hwA];simp
 have rB:wB.heap[w.heap.size+1]? =some (.cells #[.slice none 0 0,.slice none 0 0,.slice none 0 0] 91 (0,0)):=by rw[hwB,<-sA];exact heap_alloc_new wA _
 have sB:wB.heap.size=w.heap.size+2:=by rw[hwB];simp[sA]
 have B1:=Lib.hid (B0.out.next hbB);have HRB:=Lib.hid rB;have HSB:=Lib.hid sB;have HW:=Lib.hid (And.intro hwA hwB);clear hD hM C hwA hwB B0 hbB rB sA sB;go_enter Tryz.func57,Tryz.ntmps57;go_wp2_with fail;rw[<-HW.out.1,<-HW.out.2];clear HW;refine(HC.out _ B1.out.d).mono ?_
 rintro e w1 ⟨rfl,b1⟩;have B2:=Lib.hid (B1.out.next b1);obtain⟨c0,c1,c2,c3,c4,c5⟩:=B2.out.b.cells;go_wp2_with fail;refine(HL.out _ B2.out.d).mono ?_
 rintro e w2 ⟨vW,vE,vP,rfl,hOW,hOE,hOP,b2⟩;have B3:=Lib.hid (B2.out.next b2);have hb12:Below wB.heap.size wB w2:=b1.trans (b2.mono b1.size);obtain⟨w3,hw3⟩: ∃w3,w3=w2.alloc (.cells #[vW,vE,vP] 91):=⟨_,rfl⟩;have hb3:Below w2.heap.size w2 w3:=by rw[hw3];exact below_alloc _
 have rB3:w3.heap[w.heap.size+1]? =some (.cells #[.slice none 0 0,.slice none 0 0,.slice none 0 0] 91 (0,0)):=by
  rw[(hb12.trans (hb3.mono hb12.size)).block _ (by rw[HSB.out];omega)]
  exact HRB.out
 have rL3:w3.heap[w2.heap.size]? =some (.cells #[vW,vE,vP] 91 (0,0)):=by rw[hw3];exact heap_alloc_new w2 _
 have HOW:=Lib.hid (own_below hOW hb3);have HOE:=Lib.hid (own_below hOE hb3);have HOP:=Lib.hid (own_below hOP hb3);have B4:=Lib.hid (B3.out.next hb3);have hw12:w.heap.size+2<=w1.heap.size:=by have:=b1.size;rw[HSB.out]at this;exact this
 have hw23:w1.heap.size<=w2.heap.size:=b2.size;obtain⟨AW,cW,AE,cE,eW,eE,hIG⟩:=own_isG B4.out.d.tab HOW.out HOE.out (by have:=HFEW.out.1;omega) HFEW.out.2.1
 subst eW eE;obtain⟨AP,cP,eP⟩:=OwnP.slice HOP.out;subst eP;have HIG:=Lib.hid hIG;have HRB3:=Lib.hid rB3;have HRL3:=Lib.hid rL3;clear b1 c0 c1 c2 c3 c4 c5 hOW hOE hOP b2 hb12 hb3 rB3 rL3 hIG HC HL B1 B2 B3;go_wp2_with fail;rw[<-hw3];clear hw3;refine(check_done w3 HIG.out).mono ?_
 rintro e w4 ⟨rfl,b4⟩;have hs3:w2.heap.size<w3.heap.size:=(Array.getElem?_eq_some_iff.mp HRL3.out).1
 have hrb:=(b4.block (w.heap.size+1) (by omega)).trans HRB3.out
 have hrl:=(b4.block w2.heap.size hs3).trans HRL3.out;have HBW:=Lib.hid (B4.out.b.bel.trans (b4.mono B4.out.b.bel.size));have HO:=Lib.hid (And.intro (own_below HOW.out b4) (And.intro (own_below HOE.out b4) (own_below HOP.out b4)));have y0:=cell_of_row w4 (w.heap.size+1) 0 _ _ _ hrb;have y1:=cell_of_row w4 (w.heap.size+1) 1 _ _ _ hrb;have y2:=cell_of_row w4 (w.heap.size+1) 2 _ _ _ hrb;simp at y0 y1 y2;have z0:=frozen_of_row w4 (w.heap.size+1) 0 _ _ hrb;have z1:=frozen_of_row w4 (w.heap.size+1) 1 _ _ hrb;have z2:=frozen_of_row w4 (w.heap.size+1) 2 _ _ hrb;have l0:=cell_of_row w4 w2.heap.size 0 _ _ _ hrl;have l1:=cell_of_row w4 w2.heap.size 1 _ _ _ hrl;have l2:=cell_of_row w4 w2.heap.size 2 _ _ _ hrl;simp at l0 l1 l2;have HRW:=Lib.hid hrb;have hchk:(chkE (lowW T) (lowE T)=0)↔May (lowW T) (lowE T):=chkE_zero;obtain⟨r,hr⟩: ∃r,r=chkE (lowW T) (lowE T):=⟨_,rfl⟩;rw[<-hr]at hchk⊢;obtain⟨kW,hkW⟩: ∃k,k=(lowW T).length:=⟨_,rfl⟩;obtain⟨kE,hkE⟩: ∃k,k=(lowE T).length:=⟨_,rfl⟩;obtain⟨kP,hkP⟩: ∃k,k=(lowP T).length:=⟨_,rfl⟩;rw[<-hkW,<-hkE,<-hkP]at HO⊢;rw[<-hkW]at l0;rw[<-hkE]at l1;rw[<-hkP]at l2;have HCK:=Lib.hid hchk;have HK:=Lib.hid (And.intro hkW (And.intro hkE hkP));clear hrb hrl b4 hr hchk hkW hkE hkP HIG HRB3 HRL3 HOW HOE HOP B4;have hle:w.heap.size<=w.heap.size+1:=Nat.le_succ _
 by_cases h0:r=0
 ·have hOK: LowOk T:=⟨HM.out,HCK.out.mp h0⟩
  have HOK:=Lib.hid hOK;have hX:=Lib.hid (lowX_zero.mpr hOK);subst h0;clear hOK;go_wp2;have h1:=heap_setCell_same w4 (w.heap.size+1) 0 _ _ (.slice AW kW cW) HRW.out;have h2:=heap_setCell_same _ (w.heap.size+1) 1 _ _ (.slice AE kE cE) h1;have h3:=heap_setCell_same _ (w.heap.size+1) 2 _ _ (.slice AP kP cP) h2;obtain⟨x2,hx2⟩: ∃x2,x2=((w4.setCell ⟨w.heap.size+1,0,none⟩ (.slice AW kW cW)).setCell ⟨w.heap.size+1,1,none⟩ (.slice AE kE cE)).setCell ⟨w.heap.size+1,2,none⟩ (.slice AP kP cP):=⟨_,rfl⟩;rw[<-hx2]at h3⊢;have ho: ∀k,k≠w.heap.size+1->x2.heap[k]? =w4.heap[k]?:=fun k hk=>by rw[hx2,heap_setCell_other _ _ _ _ hk,heap_setCell_other _ _ _ _ hk,heap_setCell_other _ _ _ _ hk]
  have hbx:Below w.heap.size w4 x2:=by
   rw[hx2];exact(((Below.refl _ w4).setCell hle _).setCell hle _).setCell hle _
  have k0:=cell_of_row x2 (w.heap.size+1) 0 _ _ _ h3;have k1:=cell_of_row x2 (w.heap.size+1) 1 _ _ _ h3;have k2:=cell_of_row x2 (w.heap.size+1) 2 _ _ _ h3;simp at k0 k1 k2;clear hx2;refine bodyPost_ret (v:=.tuple #[.agg #[.slice AW kW cW,.slice AE kE cE,.slice AP kP cP],.int .i64 0]) ?_ rfl ⟨_,_,_,by rw[hX.out],?_,?_,?_,HBW.out.trans hbx⟩
  ·rw [results_cell_tmp rfl]
   go_simp
  ·rw[show lowWv T=lowW T by unfold lowWv;rw[if_pos HOK.out]];unfold OwnI;rw[<-HK.out.1];exact own_less (other_own HO.out.1 HRW.out (by decide) ho) (by omega)
  ·rw[show lowEv T=lowE T by unfold lowEv;rw[if_pos HOK.out]];unfold OwnE;rw[<-HK.out.2.1];exact own_less (other_own HO.out.2.1 HRW.out (by decide) ho) (by omega)
  ·rw[show lowPv T=lowP T by unfold lowPv;rw[if_pos HOK.out]];unfold OwnP;rw[<-HK.out.2.2];exact own_less (other_own HO.out.2.2 HRW.out (by decide) ho) (by omega)
 ·have hb: (r != 0) = true:=bne_iff_ne.mpr h0
  have hX:Hid ((70:Int)=lowX T):=Lib.hid (by unfold lowX;rw[if_pos HM.out,if_neg (fun k=>h0 (HCK.out.mpr k))])
  clear h0;go_wp2;have h1:=heap_setCell_same w4 (w.heap.size+1) 0 _ _ (.slice none 0 0) HRW.out;have h2:=heap_setCell_same _ (w.heap.size+1) 1 _ _ (.slice none 0 0) h1;have h3:=heap_setCell_same _ (w.heap.size+1) 2 _ _ (.slice none 0 0) h2;obtain⟨x2,hx2⟩: ∃x2,x2=((w4.setCell ⟨w.heap.size+1,0,none⟩ (.slice none 0 0)).setCell ⟨w.heap.size+1,1,none⟩ (.slice none 0 0)).setCell ⟨w.heap.size+1,2,none⟩ (.slice none 0 0):=⟨_,rfl⟩;rw[<-hx2]at h3⊢;have hbx:Below w.heap.size w4 x2:=by
   rw[hx2];exact(((Below.refl _ w4).setCell hle _).setCell hle _).setCell hle _
  have k0:=cell_of_row x2 (w.heap.size+1) 0 _ _ _ h3;have k1:=cell_of_row x2 (w.heap.size+1) 1 _ _ _ h3;have k2:=cell_of_row x2 (w.heap.size+1) 2 _ _ _ h3;simp at k0 k1 k2;clear hx2;refine bodyPost_ret (v:=.tuple #[.agg #[.slice none 0 0,.slice none 0 0,.slice none 0 0],.int .i64 70]) ?_ rfl (gotLow_no hX.out (by rw[<-hX.out];decide) (HBW.out.trans hbx))
  rw[results_cell_tmp rfl]
  go_simp
theorem lower_any(s:Sh)(T:Task)(w:World)(hD:IsD w s T):Calls Tryz.prog 57 #[s.arg T.period T.deadline] w (GotLow T w):=by
 by_cases hM:MayT T
 ·exact lower_may s T w hD hM
 ·exact lower_bad s T w hD hM
theorem eq_ints(B:Nat)(A1 A2:Option Addr)(c1 c2:Nat)(xs ys:List Int)(w:World)(hx:xs.length<=1000)(hy:ys.length<=1000)(h1:Ints w B A1 xs)(h2:Ints w B A2 ys):
  Calls Tryz.prog 51 #[.slice A1 xs.length c1,.slice A2 ys.length c2] w fun e w'=>e= .returned (.bool (decide (xs=ys)))/\ ∃N,w'=w.drewN N:=by
 obtain⟨n,hn⟩: ∃n,n=xs.length:=⟨_,rfl⟩;obtain⟨m,hm⟩: ∃m,m=ys.length:=⟨_,rfl⟩;rw[<-hn,<-hm];rw[<-hn]at hx;rw[<-hm]at hy;have HN:=Lib.hid hn;have HM:=Lib.hid hm;have H1:=Lib.hid h1;have H2:=Lib.hid h2;clear hn hm h1 h2
 by_cases hnm:n=m
 ·subst hnm
  go_enter Tryz.func51,Tryz.ntmps51;go_wp2;go_loopw [13] (fun i wr=> ∃j N:Nat,j<=n/\i= .int .i64 j/\Hid (xs.take j=ys.take j)/\wr=w.drewN N) (fun i _=>n - (intOf i).toNat)
  case atStart=>exact⟨0,0,Nat.zero_le _,rfl,Lib.hid rfl,rfl⟩
  case round=>
   obtain⟨j,N,hj,rfl,HT,rfl⟩:=hrel
   by_cases hlt:j<n
   ·obtain ⟨b1,o1,x,rfl,_,hx1,hc1⟩:=H1.out.at_ (k:=j) (by rw [<- HN.out]; exact hlt)
    obtain⟨b2,o2,y,rfl,_,hy1,hc2⟩:=H2.out.at_ (k:=j) (by rw[<-HM.out];exact hlt)
    have HX:=Lib.hid hx1;have HY:=Lib.hid hy1;clear hx1 hy1
    by_cases hxy:x=y
    ·subst hxy
     go_wp2
     go_quiet (fail)
     go_wp2;go_roundw
     case rel=>exact⟨j+1,_,by omega,by go_num,Lib.hid (take_next HT.out HX.out HY.out),rfl⟩
     case measure=>simp[intOf];omega
    ·have hb: (x != y) = true:=by simpa using hxy
     have HXY:=Lib.hid hxy;clear hxy;go_wp2
     go_quiet (fail)
     go_wp2;go_ret
     exact⟨by rw[decide_eq_false (take_part HX.out HY.out HXY.out)];rfl,_,drews w N _⟩
   ·obtain rfl: j = n:=by omega
    go_wp2;go_ret
    exact⟨by rw[decide_eq_true (take_ext (by rw[<-HN.out,<-HM.out]) (by rw[<-HN.out];exact HT.out))];rfl,_,rfl⟩
 ·have hb: ((n: Int) != (m: Int)) = true:=by simp; omega
  go_enter Tryz.func51,Tryz.ntmps51;go_wp2;go_ret;exact⟨by rw[decide_eq_false (fun e:xs=ys=>hnm (by rw[HN.out,HM.out,e]))];rfl,0,rfl⟩
section
variable {A: Option Addr} {n c: Nat} {F: Option Addr} {m d: Nat} {W: List Int} {E: List (Int × Int)} {A': Option Addr} {n' c': Nat} {F': Option Addr} {m' d': Nat} {W': List Int} {E': List (Int × Int)}
end
end Go.Proofs.YtlfekmbalgkmeaaGreatDoor
