import Derived.Test.YtngdbbligebcbabGreatDoorZM8
import Derived.Test.YtngdbbligebcbabGreatDoorZM10
import Derived.Test.YtngdbbligebcbabGreatDoorZM6
import Derived.WalkMore
import Derived.ChangeKeysEq
import Derived.Test.YtngdbbligebcbabGreatDoorZM7
import Derived.Test.YtngdbbligebcbabGreatDoorZM4
set_option linter.unusedVariables false
set_option maxRecDepth 100000
set_option maxHeartbeats 8000000
namespace Go.Proofs.YtngdbbligebcbabGreatDoor
open Go.RowKit
section
variable {E: List (Int × Int)} {need: List Int} {cores: Nat} {t: List (List Int)}
theorem one_idle{i c:Nat}(h:numT t i c= -1):oneV E need t i c=0:=by unfold oneV;rw[if_pos h]
theorem one_node{i c:Nat}(h:numT t i c≠ -1)(h2:numT t i c<0\/(need.length:Int)<=numT t i c):oneV E need t i c=101:=by unfold oneV;rw[if_neg h,if_pos h2]
theorem one_twice{i c:Nat}(h:numT t i c≠ -1)(h2: ¬(numT t i c<0\/(need.length:Int)<=numT t i c))(h3:numT t i c∈(rowT t i).take c):oneV E need t i c=102:=by unfold oneV;rw[if_neg h,if_neg h2,if_pos h3]
theorem one_over{i c:Nat}(h:numT t i c≠ -1)(h2: ¬(numT t i c<0\/(need.length:Int)<=numT t i c))(h3:numT t i c∉(rowT t i).take c)(h4:needT need (numT t i c)<=ranT t (numT t i c) i):oneV E need t i c=105:=by unfold oneV;rw[if_neg h,if_neg h2,if_neg h3,if_pos h4]
theorem one_split{i c:Nat}(h:numT t i c≠ -1)(h2: ¬(numT t i c<0\/(need.length:Int)<=numT t i c))(h3:numT t i c∉(rowT t i).take c)(h4: ¬needT need (numT t i c)<=ranT t (numT t i c) i)(h5:0<ranT t (numT t i c) i/\numT t (i - 1) c≠numT t i c):oneV E need t i c=104:=by
 unfold oneV;rw[if_neg h,if_neg h2,if_neg h3,if_neg h4,if_pos h5]
theorem one_wait{i c:Nat}(h:numT t i c≠ -1)(h2: ¬(numT t i c<0\/(need.length:Int)<=numT t i c))(h3:numT t i c∉(rowT t i).take c)(h4: ¬needT need (numT t i c)<=ranT t (numT t i c) i)(h5: ¬(0<ranT t (numT t i c) i/\numT t (i - 1) c≠numT t i c))(h6:ranT t (numT t i c) i=0/\ ¬FreeT E need t (numT t i c) i):oneV E need t i c=103:=by
 unfold oneV;rw[if_neg h,if_neg h2,if_neg h3,if_neg h4,if_neg h5,if_pos h6]
theorem one_fine{i c:Nat}(h:numT t i c≠ -1)(h2: ¬(numT t i c<0\/(need.length:Int)<=numT t i c))(h3:numT t i c∉(rowT t i).take c)(h4: ¬needT need (numT t i c)<=ranT t (numT t i c) i)(h5: ¬(0<ranT t (numT t i c) i/\numT t (i - 1) c≠numT t i c))(h6: ¬(ranT t (numT t i c) i=0/\ ¬FreeT E need t (numT t i c) i)):oneV E need t i c=0:=by
 unfold oneV;rw[if_neg h,if_neg h2,if_neg h3,if_neg h4,if_neg h5,if_neg h6]
structure Track(cores:Nat)(t:List (List Int))(i:Nat)(ran lt lc:Nat->Int):Prop where
 ran: ∀n:Nat,ran n=(ranT t (n:Int) i:Int)
 last: ∀n:Nat,0<ranT t (n:Int) i-> ∃k c:Nat,lt n=(k:Int)/\lc n=(c:Int)/\k<i/\c<cores/\numT t k c=(n:Int)/\ ∀j,k<j->j<i->(n:Int)∉rowT t j
theorem Track.start(cores:Nat)(t:List (List Int))(lt lc:Nat->Int):Track cores t 0 (fun _=>0) lt lc:=⟨fun n=>by rw[ranT_zero];rfl,fun n h=>by rw[ranT_zero]at h;omega⟩
theorem Track.next{i:Nat}{ran lt lc:Nat->Int}(h:Track cores t i ran lt lc)(hi:i<t.length){row:List Int}(hrow:t[i]? =some row)(hl:row.length=cores):
  Track cores t (i+1) (addR row ran cores) (addT row lt (fun _=>(i:Int)) cores) (addT row lc (fun k=>(k:Int)) cores):=by
 have hr:=rowT_at hrow;refine⟨fun n=> ?_,fun n hn=> ?_⟩
 ·rw [addR_is row ran cores (by omega),h.ran,ranT_succ _ hi,hr,List.take_of_length_le (by omega)]
  omega
 ·have h1:=addT_is row lt (fun _ => (i: Int)) cores (by omega) n
  have h2:=addT_is row lc (fun k=>(k:Int)) cores (by omega) n
  rw[List.take_of_length_le (by omega)]at h1 h2
  rcases h2 with⟨hno,h2⟩|⟨c,hc,hx,h2⟩
  ·rcases h1 with ⟨_,h1⟩ | ⟨c,hc,hx,_⟩
   ·rw [ranT_succ _ hi,hr,List.count_eq_zero.mpr hno,Nat.add_zero] at hn
    obtain⟨k,c,e1,e2,hk,hc,hnum,hlast⟩:=h.last n hn;refine⟨k,c,h1.trans e1,h2.trans e2,by omega,hc,hnum,fun j hj hji=> ?_⟩
    rcases Nat.lt_or_ge j i with q|q
    ·exact hlast j hj q
    ·rw[show j=i by omega,hr];exact hno
   ·exfalso
    refine hno ?_
    rw[<-hx,List.getD_eq_getElem?_getD,List.getElem?_eq_getElem (by omega:c<row.length)]
    exact List.getElem_mem _
  ·rcases h1 with ⟨hno,_⟩ | ⟨c',hc',hx',h1⟩
   ·exfalso
    refine hno ?_
    rw[<-hx,List.getD_eq_getElem?_getD,List.getElem?_eq_getElem (by omega:c<row.length)]
    exact List.getElem_mem _
   ·refine ⟨i,c,h1,h2,by omega,hc,?_,fun j hj hji => by omega⟩
    unfold numT;rw[hr];exact hx
theorem Track.split{i:Nat}{ran lt lc:Nat->Int}(h:Track cores t i ran lt lc)(G:Good E need cores (t.take i))(hi:i<=t.length){n c:Nat}(hc:c<cores)(hn:0<ranT t (n:Int) i):
  (lt n=(i:Int) - 1/\lc n=(c:Int))↔numT t (i - 1) c=(n:Int):=by
 obtain⟨k,d,e1,e2,hk,hd,hnum,hlast⟩:=h.last n hn;have hl:(t.take i).length=i:=by rw[List.length_take];omega
 constructor
 ·rintro ⟨q1,q2⟩
  rw[e1]at q1;rw[e2]at q2;rw[show i - 1=k by omega,show c=d by omega]
  exact hnum
 ·intro q
  have hrow:rowT (t.take i) (i - 1)=rowT t (i - 1):=rowT_take t i (i - 1) (by omega)
  have hlen:=G.len (show i - 1<(t.take i).length by omega)
  have hmem:(n:Int)∈rowT t (i - 1):=by
   rw[<-q];exact num_mem (by rw[<-hrow,hlen];exact hc)
  have hk1:k=i - 1:=by
   rcases Nat.lt_or_ge k (i - 1)with h1|h1
   ·exact absurd hmem (hlast (i - 1) h1 (by omega))
   ·omega
  subst hk1;have num1:numT (t.take i) (i - 1) c=(n:Int):=by unfold numT at q⊢;rw[hrow];exact q
  have num2:numT (t.take i) (i - 1) d=(n:Int):=by unfold numT at hnum⊢;rw[hrow];exact hnum
  have run:=G.run (n:Int) (by omega) (t.take i).length (Nat.le_refl _)
  have hpos:0<ranT (t.take i) (n:Int) (t.take i).length:=by rw[hl,ranT_take t _ i i (Nat.le_refl _)];exact hn
  rcases run with h0|⟨s,m,c',hr⟩
  ·omega
  ·have a1:=(hr.2.2.2.2 (i - 1) (by omega) c hc).mp num1
   have a2:=(hr.2.2.2.2 (i - 1) (by omega) d hd).mp num2
   exact⟨by omega,by rw[e2,a2.2,a1.2]⟩
theorem Track.over{i:Nat}{ran lt lc:Nat->Int}(h:Track cores t i ran lt lc)(G:Good E need cores (t.take i))(hp: ∀z∈need,1<=z){x:Int}(h0:0<=x)(hx:x<need.length):doneB need ran x=decide (needT need x<=ranT t x i):=by
 obtain⟨n,rfl⟩: ∃n:Nat,x=(n:Int):=⟨x.toNat,by omega⟩
 unfold doneB;rw[Int.toNat_natCast,h.ran n];have h1:=G.ran_le hp h0 hx i;rw[ranT_take t _ i i (Nat.le_refl _)]at h1;exact decide_eq_decide.mpr ⟨fun q=>by omega,fun q=>by omega⟩
theorem Track.free{W:List Int}{i:Nat}{ran lt lc:Nat->Int}(h:Track cores t i ran lt lc)(G:Good E need cores (t.take i))(hp: ∀z∈need,1<=z)(hM:May W E)(hW:W.length=need.length)(x:Int):
  (predsV W E x).all (doneB need ran)=decide (FreeT E need t x i):=by
 have hpv:predsV W E x=predsL W.length E x:=by unfold predsV;rw[if_pos hM]
 rw[hpv,Bool.eq_iff_iff,List.all_eq_true,decide_eq_true_iff];have hmem: ∀a:Int,a∈predsL W.length E x↔(0<=a/\a<W.length)/\(a,x)∈E:=by
  intro a;unfold predsL;rw[List.mem_filter,List.mem_map,decide_eq_true_iff];constructor
  ·rintro ⟨⟨k,hk,rfl⟩,he⟩
   have hk':k<W.length:=by simpa using hk
   exact⟨⟨Int.natCast_nonneg k,Int.ofNat_lt.mpr hk'⟩,he⟩
  ·rintro ⟨⟨h0,h1⟩,he⟩
   exact⟨⟨a.toNat,by simp;omega,Int.toNat_of_nonneg h0⟩,he⟩
 constructor
 ·intro hall e he hx
  have hf:=hM.fits _ he;have h1:=hall e.1 ((hmem e.1).mpr ⟨⟨hf.1,hf.2.1⟩,by rw[<-hx];exact he⟩)
  rw[h.over G hp hf.1 (by omega),decide_eq_true_iff]at h1
  exact h1
 ·intro hfree a ha
  obtain⟨⟨h0,h1⟩,he⟩:=(hmem a).mp ha;rw[h.over G hp h0 (by omega),decide_eq_true_iff]
  exact hfree (a,x) he rfl
theorem Track.bound{i:Nat}{ran lt lc:Nat->Int}(h:Track cores t i ran lt lc)(hr: ∀r∈t,r.length=cores)(hi:i<=t.length)(ht:t.length<=400)(hc:cores<=400)(n:Nat):0<=ran n/\ran n<=1000000:=by
 have h1:ranT t (n:Int) i<=(t.take i).flatten.length:=List.count_le_length;rw[flat_len hr i hi]at h1;have h2:cores * i<=400 * 400:=Nat.mul_le_mul hc (by omega)
 rw[h.ran n];omega
theorem Good.snoc{i:Nat}(G:Good E need cores (t.take i))(hr: ∀r∈t,r.length=cores)(h:firstV (oneV E need t i) cores=0):Good E need cores (t.take (i+1)):=
 ⟨fun r hr'=>hr r (List.mem_of_mem_take hr'),fun j hj c hc=>by
  rw[List.length_take]at hj;rw[oneV_take (i+1) j c (by omega)]
  rcases Nat.lt_or_ge j i with h1|h1
  ·have:=G.one j (by rw [List.length_take]; omega) c hc
   rwa [oneV_take i j c h1]at this
  ·rw [show j = i by omega]
   exact firstV_zero.mp h c hc⟩
theorem fault_hit{i c:Nat}(G:Good E need cores (t.take i))(hi:i<t.length)(hc:c<cores)(h0:firstV (oneV E need t i) c=0){r:Int}(h:oneV E need t i c=r)(hr:r≠0):faultV E need cores t=r:=by
 have h1:tickV E need cores t i=r:=by
  unfold tickV;rw[firstV_hit h0 (by rw[h];exact hr) hc,h]
 unfold faultV;rw[firstV_hit (f:=tickV E need cores t) (k:=i) (firstV_zero.mpr fun j hj=>firstV_zero.mpr fun c hc=> ?_) (by rw[h1];exact hr) hi,h1]
 have:=G.one j (by rw[List.length_take];omega) c hc
 rwa [oneV_take i j c hj]at this
theorem fault_none(G:Good E need cores (t.take t.length)):faultV E need cores t=0:=by
 rw[List.take_length]at G;exact(good_iff G.rows).mp G
end
theorem place_under:Tryz.prog.underlying 174=some (.array 2 3):=by kernel_rfl
theorem int_cells:Tryz.prog.cellsOf 3=1:=by kernel_rfl
theorem place_neq(x y u v:Int)(W:World):(binOp .neq 174 (.agg #[.int .i64 x,.int .i64 y]) (.agg #[.int .i64 u,.int .i64 v])).run Tryz.prog W= .ok (.bool (!(x==u&&y==v))) W:=by
 obtain⟨i0,hi,_⟩:=info_parts int_cell_info;have p1:=fun(a b:Int) (W:World)=>(part_int a b W).1
 have p2:=fun(a b:Int) (W:World)=>(part_int a b W).2
 have e1:=fun a b W=>run_equalIn_int (P:=Tryz.prog) W 9998 3 .i64 .i64 a b Tryz.underlying3
 rw[run_neq_struct,run_equalIn_array W 9999 _ _ place_under hi,int_cells];have hr:List.range 2= [0,1]:=by decide
 rw[hr];simp only[Op.eqItems,Nat.zero_mul,Nat.one_mul]
 by_cases h1:x=u
 ·subst h1
  by_cases h2:y=v
  ·simp[p1,p2,e1,h2]
  ·simp[p1,p2,e1,h2]
 ·simp[p1,p2,e1,h1]
section
variable {A: Option Addr} {n c: Nat} {F: Option Addr} {m d: Nat} {W: List Int} {E: List (Int × Int)} {N: Option Addr} {nn nc: Nat} {need: List Int} {T: Option Addr} {tn tc: Nat} {t: List (List Int)} {cores: Nat}
structure Mid(w:World)(gw gp gv gn:Nat)(n:Nat)(W:List Int)(E:List (Int×Int))(N:Option Addr)(nn nc:Nat)(need:List Int)(cores:Nat)(t:List (List Int))(i:Nat)(w':World):Prop where
 bel:Below w.heap.size w w'
 waits:Waits gp gw n W E w'
 gplt:gp<=w'.heap.size
 watch: ∃ran lt lc,Watch gp gv gn N nn nc need ran lt lc w'/\Track cores t i ran lt lc
 good:Good E need cores (t.take i)
 lw:gw<gp
 lp:w.heap.size<=gp
theorem Mid.below{w:World}{gw gp gv gn i:Nat}{w1 w2:World}(h:Mid w gw gp gv gn n W E N nn nc need cores t i w1)(hb:Below w1.heap.size w1 w2):Mid w gw gp gv gn n W E N nn nc need cores t i w2:=
 ⟨h.bel.trans (hb.mono h.bel.size),h.waits.below (hb.mono h.gplt),Nat.le_trans h.gplt hb.size,by
  obtain⟨ran,lt,lc,h1,h2⟩:=h.watch;exact⟨ran,lt,lc,h1.below hb,h2⟩,h.good,h.lw,h.lp⟩
theorem fault_any(w:World)(h:IsG w A n c F m d W E)(hS:IsS w N nn nc T tn tc need t)(hM:May W E)(hF:FormOk W need cores)(hR: ∀r∈t,r.length=cores):
  Calls Tryz.prog 123 #[.agg #[.slice A n c,.slice F m d],.slice N nn nc,.slice T tn tc] w fun e w'=>e= .returned (.int .i64 (faultV E need cores t))/\Below w.heap.size w w':=by
 have H:=Lib.hid h;have HS:=Lib.hid hS;have HM:=Lib.hid hM;have HF:=Lib.hid hF;have HR:=Lib.hid hR;have C1:=Lib.hid (fun W' (h:IsG W' A n c F m d W E)=>preds10_any W' h)
 have C2:=Lib.hid (fun W' (h:IsS W' N nn nc T tn tc need t)=>watch_any N nn nc need W' h.hn h.ints)
 obtain⟨w0,hw0⟩: ∃w0,w0=w.alloc (.cells #[.slice A n c,.slice F m d] 25):=⟨_,rfl⟩;have HW0:=Lib.hid hw0;have HB0:Hid (Below w.heap.size w w0):=Lib.hid (by rw[hw0];exact below_alloc _)
 obtain⟨r,hr⟩: ∃r,r=faultV E need cores t:=⟨_,rfl⟩;rw[<-hr];have HRR:=Lib.hid hr;clear h hS hM hF hR hw0 hr;go_enter Tryz.func123,Tryz.ntmps123;go_wp2
 go_step3
 go_wp2_with fail;refine(C1.out _ (H.out.below (below_alloc _))).mono ?_
 rintro e w1 ⟨gw,rfl,hw,hb,hgw⟩;have HB1:Hid (Below w.heap.size w w1):=Lib.hid (HB0.out.trans (by rw[HW0.out];exact hb.mono (by simp)))
 have HWT:=Lib.hid hw;have HGW:Hid (w.heap.size<=gw):=Lib.hid (by simp at hgw;omega)
 clear hw hb hgw HB0 C1;go_wp2_with fail;refine(C2.out _ (HS.out.below HB1.out)).mono ?_
 rintro e w2 ⟨gp,gv,gn,rfl,hw,hb,hgn,hgv,hgp⟩;have HMID:Hid (Mid w gw gp gv gn n W E N nn nc need cores t 0 w2):=Lib.hid ⟨HB1.out.trans (hb.mono HB1.out.size),(HWT.out.below hb).more hgp,Nat.le_of_lt hw.past.lt_,⟨_,_,_,hw,Track.start cores t _ _⟩,⟨fun r hr=>by simp at hr,fun i hi=>by simp at hi⟩,Nat.lt_of_lt_of_le HWT.out.lt hgp,Nat.le_trans HB1.out.size hgp⟩
 clear hw hb hgn hgv hgp HWT HGW HB1 C2;go_wp2
 go_step3
 go_wp2;go_loopw [8,24] (fun ev v wr=> ∃i:Nat,i<=tn/\v= .int .i64 i/\ev= .int .i64 0/\Hid (Mid w gw gp gv gn n W E N nn nc need cores t i wr)) (fun _ v _=>tn - (intOf v).toNat)
 case atStart=>exact⟨0,Nat.zero_le _,rfl,rfl,HMID⟩
 case round=>
  obtain⟨i,hi,rfl,rfl,HK⟩:=hrel;clear HMID
  by_cases hlt:i<tn
  ·obtain ⟨bt,ot,row,A1,n1,c1,rfl,hbt,hrow,hn1,hcell,hints,hnil⟩:=HS.out.rows.at_ (k:=i) (by rw [HS.out.ht]; exact hlt)
   obtain rfl:n1=cores:=hn1.symm.trans (HR.out row (List.mem_of_getElem? hrow))
   have hd:wr.cell? ⟨bt,ot+i,none⟩=some (.slice A1 n1 c1):=(HK.out.bel.cell hbt).trans hcell
   have HI1:=Lib.hid hints;have HROW:=Lib.hid hrow;have HN1:=Lib.hid hn1;have hbt2:bt<wr.heap.size:=Nat.lt_of_lt_of_le hbt HK.out.bel.size;have hn8:n1<=8:=by have:=HF.out.2.2.2;omega
   have htn:tn<=400:=HS.out.lt;have HCAP:=Lib.hid hnil.2;clear hcell hints hrow hn1 hnil;go_wp2;go_loopw [8,31] (fun ev v wi=> ∃k:Nat,k<=n1/\v= .int .i64 k/\ev= .int .i64 0/\Hid (Mid w gw gp gv gn n W E N nn nc need n1 t i wi)/\Hid (firstV (oneV E need t i) k=0)) (fun _ v _=>n1 - (intOf v).toNat)
   case atStart=>exact⟨0,Nat.zero_le _,rfl,rfl,HK,Lib.hid rfl⟩
   case round=>
    obtain⟨k,hk,rfl,rfl,HK2,HFI⟩:=hrel
    by_cases hlt2:k<n1
    ·obtain ⟨bk,off,x,rfl,hbk,hxk,hcx⟩:=HI1.out.at_ (k:=k) (by rw [HN1.out]; exact hlt2)
     have hdx:wr.cell? ⟨bk,off+k,none⟩=some (.int .i64 x):=(HK2.out.bel.cell hbk).trans hcx
     have hbk2:bk<wr.heap.size:=Nat.lt_of_lt_of_le hbk HK2.out.bel.size;have HNUM:=Lib.hid (numT_at HROW.out hxk);have HRT:=Lib.hid (rowT_at HROW.out);clear hcx hxk
     by_cases hx1:x= -1
     ·subst hx1
      have HO:=Lib.hid (one_idle (E:=E) (need:=need) HNUM.out);go_wp2;go_roundw
      case rel=>exact⟨k+1,by omega,by go_num,rfl,HK2,Lib.hid (firstV_next HFI.out HO.out)⟩
      case measure=>simp[intOf];omega
     ·have hne: (x == -1) = false:=by simpa using hx1
      have HX1:=Lib.hid hx1;clear hx1
      by_cases hx2:x< -1
      ·obtain rfl: r = 101:=HRR.out.trans (fault_hit HK2.out.good (by rw [HS.out.ht]; exact hlt) hlt2 HFI.out (one_node (by rw [HNUM.out]; exact HX1.out) (.inl (by rw [HNUM.out]; omega))) (by decide))
       go_wp2
       try rw[Exit.noGoto_ret]
       go_ret;exact⟨rfl,HK2.out.bel⟩
      ·have h0: 0 <= x:=by have:=HX1.out; omega
       have hx2':decide (x< -1)=false:=decide_eq_false hx2;clear hx2
       by_cases hx3:(nn:Int)<=x
       ·obtain rfl: r = 101:=HRR.out.trans (fault_hit HK2.out.good (by rw [HS.out.ht]; exact hlt) hlt2 HFI.out (one_node (by rw [HNUM.out]; exact HX1.out) (.inr (by rw [HNUM.out,HS.out.hn]; exact hx3))) (by decide))
        go_wp2
        try rw[Exit.noGoto_ret]
        go_ret;exact⟨rfl,HK2.out.bel⟩
       ·have hx3': decide ((nn: Int) <= x) = false:=decide_eq_false hx3
        have hq0:x<nn:=by omega
        clear hx3;have hnn:nn<=64:=by
         have h1:=HF.out.1;have h2:=HM.out.nodes;have h3:=HS.out.hn;omega
        have HNO:=Lib.hid (show¬(numT t i k<0\/(need.length:Int)<=numT t i k) by rw[HNUM.out,HS.out.hn];omega)
        have HNE:=Lib.hid (show numT t i k≠ -1 by rw[HNUM.out];exact HX1.out)
        have C3:=Lib.hid (contains_any (some ⟨bk,off,none⟩) c1 k (row.take k) x w.heap.size wr (by rw[List.length_take,HN1.out];omega) (by omega) ((HI1.out.below HK2.out.bel).take k))
        have hcap:=HCAP.out
        by_cases hx4:x∈row.take k
        ·obtain rfl: r = 102:=HRR.out.trans (fault_hit HK2.out.good (by rw [HS.out.ht]; exact hlt) hlt2 HFI.out (one_twice HNE.out HNO.out (by rw [HNUM.out,HRT.out]; exact hx4)) (by decide))
         rw[decide_eq_true hx4]at C3;clear hx4;go_wp2_with fail;refine C3.out.mono ?_
         rintro e w3 ⟨rfl,rfl⟩;go_wp2
         try rw[Exit.noGoto_ret]
         go_ret;exact⟨rfl,HK2.out.bel⟩
        ·rw [decide_eq_false hx4] at C3
         have HX4:=Lib.hid (show numT t i k∉(rowT t i).take k by rw[HNUM.out,HRT.out];exact hx4)
         clear hx4;obtain⟨ran,lt,lc,hw,htr⟩:=HK2.out.watch;have HW:=Lib.hid hw;have HTR:=Lib.hid htr;have hov:=htr.over HK2.out.good (fun z hz=>(HF.out.2.1 z hz).1) h0 (show x<need.length by rw[HS.out.hn];exact hq0)
         have hdone:=doneB_any x wr hw h0 (by rw[HS.out.hn];exact hq0) hnn
         rw[hov]at hdone;clear hw htr hov
         by_cases hx5:needT need x<=ranT t x i
         ·obtain rfl: r = 105:=HRR.out.trans (fault_hit HK2.out.good (by rw [HS.out.ht]; exact hlt) hlt2 HFI.out (one_over HNE.out HNO.out HX4.out (by rw [HNUM.out]; exact hx5)) (by decide))
          rw[decide_eq_true hx5]at hdone;have C4:=Lib.hid hdone;clear hx5 hdone;go_wp2_with fail;refine C3.out.mono ?_
          rintro e w3 ⟨rfl,rfl⟩
          go_wp2_with(go_at_call 157;refine C4.out.mono ?_;rintro e w4 ⟨rfl,b⟩;have HK4:=Lib.hid (HK2.out.below b);clear b)
          try rw[Exit.noGoto_ret]
          go_ret;exact⟨rfl,HK4.out.bel⟩
         ·rw [decide_eq_false hx5] at hdone
          have C4:=Lib.hid hdone;have HX5:=Lib.hid (show¬needT need (numT t i k)<=ranT t (numT t i k) i by rw[HNUM.out];exact hx5)
          clear hx5 hdone;obtain⟨q,rfl⟩: ∃q:Nat,x=(q:Int):=⟨x.toNat,by omega⟩
          have hq64:q<64:=by omega
          go_wp2_with fail;refine C3.out.mono ?_
          rintro e w3 ⟨rfl,rfl⟩;go_wp2_with fail;refine C4.out.mono ?_
          rintro e w4 ⟨rfl,b⟩;have HK4:=Lib.hid (HK2.out.below b);have HW4:=Lib.hid (HW.out.below b);obtain⟨d1,d2,d3⟩:=(HW.out.below b).past.cells hq64;have hgp4:=(HW.out.below b).past.lt_;clear b hdx;obtain⟨v1,hv1⟩: ∃v,v=ran q:=⟨_,rfl⟩;obtain⟨v2,hv2⟩: ∃v,v=lt q:=⟨_,rfl⟩;obtain⟨v3,hv3⟩: ∃v,v=lc q:=⟨_,rfl⟩;rw[<-hv1]at d1;rw[<-hv2]at d2;rw[<-hv3]at d3;have HV1:=Lib.hid (hv1.trans (HTR.out.ran q));have HSP:=Lib.hid (fun h=>HTR.out.split HK2.out.good (by rw[HS.out.ht];exact hi) (n:=q) hlt2 h)
          rw[<-hv2,<-hv3]at HSP;have hb1:0<=v1:=by have:=HV1.out;omega
          have hpn:=place_neq v2 v3 ((i:Int) - 1) (k:Int);clear hv1 hv2 hv3
          by_cases hp:0<v1
          ·by_cases hs: v2 = (i: Int) - 1 /\ v3 = (k: Int)
           ·have HO:=Lib.hid (one_fine (E:=E) HNE.out HNO.out HX4.out (by have:=HX5.out; omega) (by
             rw[HNUM.out];rintro⟨h1,h2⟩;exact h2 ((HSP.out h1).mp hs)) (by
             rw[HNUM.out];rintro⟨h1,_⟩;have:=HV1.out;omega))
            have hpb:(!(v2==(i:Int) - 1&&v3==(k:Int)))=false:=by simp[hs.1,hs.2]
            rw[hpb]at hpn;have hz:(v1==0)=false:=by simp;omega
            clear hs hpb;go_wp2;go_roundw
            case rel=>exact⟨k+1,by omega,by go_num,rfl,HK4,Lib.hid (firstV_next HFI.out HO.out)⟩
            case measure=>simp[intOf];omega
           ·obtain rfl: r = 104:=HRR.out.trans (fault_hit HK2.out.good (by rw [HS.out.ht]; exact hlt) hlt2 HFI.out (one_split HNE.out HNO.out HX4.out (by have:=HX5.out; omega) (by
             rw[HNUM.out];have h1:0<ranT t (q:Int) i:=by have:=HV1.out;omega
             exact⟨h1,fun h2=>hs ((HSP.out h1).mpr h2)⟩)) (by decide))
            have hpb:(!(v2==(i:Int) - 1&&v3==(k:Int)))=true:=by
             simp only[Bool.not_eq_true',Bool.and_eq_false_iff,beq_eq_false_iff_ne]
             by_cases h1:v2=(i:Int) - 1
             ·exact .inr fun h2=>hs ⟨h1,h2⟩
             ·exact .inl h1
            rw[hpb]at hpn;clear hs hpb;go_wp2
            try rw[Exit.noGoto_ret]
            go_ret;exact⟨rfl,HK4.out.bel⟩
          ·obtain rfl: v1 = 0:=by omega
           have HR0:=Lib.hid (show ranT t (q:Int) i=0 by have:=HV1.out;omega)
           have hqn:q<n:=by
            have h1:=HF.out.1;have h3:=HS.out.hn;have h4:=H.out.hn;omega
           obtain⟨A2,c2,e1,e2⟩:=HK4.out.waits.at_ q hqn;have hfr:=HTR.out.free HK2.out.good (fun z hz=>(HF.out.2.1 z hz).1) HM.out HF.out.1.symm (q:Int)
           have hpl:(predsV W E (q:Int)).length<=n:=by
            unfold predsV;rw[if_pos HM.out,H.out.hn];exact predsL_length _ _ _
           have hpx: ∀y∈predsV W E (q:Int),0<=y/\y<need.length:=by
            intro y hy;unfold predsV at hy;rw[if_pos HM.out]at hy;unfold predsL at hy;rw[List.mem_filter,List.mem_map]at hy;obtain⟨⟨z,hz,rfl⟩,_⟩:=hy;have:=HF.out.1;simp at hz⊢;omega
           have hall:=all_any A2 c2 _ _ w4 rfl (by have:=H.out.ln;omega) (e2.more HK4.out.gplt) hpx hnn HW4.out
           rw[hfr]at hall;obtain⟨l2,hl2⟩: ∃l,l=(predsV W E (q:Int)).length:=⟨_,rfl⟩;rw[<-hl2]at hall e1;have hgw:gw<w4.heap.size:=Nat.lt_of_lt_of_le HK4.out.waits.lt HK4.out.gplt;clear e2 hfr hpl hpx hl2 hpn hb1
           by_cases hf:FreeT E need t (q:Int) i
           ·have HO:=Lib.hid (one_fine (E:=E) HNE.out HNO.out HX4.out (by have:=HX5.out; omega) (by
             rw[HNUM.out];rintro⟨h1,_⟩;have:=HR0.out;omega) (by
             rw[HNUM.out];rintro⟨_,h1⟩;exact h1 hf))
            rw[decide_eq_true hf]at hall;have C6:=Lib.hid hall;clear hf hall
            go_wp2_with(go_at_call 145;refine C6.out.mono ?_;rintro e w6 ⟨rfl,b⟩;have HK6:=Lib.hid (HK4.out.below b);clear b)
            go_roundw
            case rel=>exact⟨k+1,by omega,by go_num,rfl,HK6,Lib.hid (firstV_next HFI.out HO.out)⟩
            case measure=>simp[intOf];omega
           ·obtain rfl: r = 103:=HRR.out.trans (fault_hit HK2.out.good (by rw [HS.out.ht]; exact hlt) hlt2 HFI.out (one_wait HNE.out HNO.out HX4.out (by have:=HX5.out; omega) (by
             rw[HNUM.out];rintro⟨h1,_⟩;have:=HR0.out;omega) (by rw[HNUM.out];exact⟨HR0.out,hf⟩)) (by decide))
            rw[decide_eq_false hf]at hall;have C6:=Lib.hid hall;clear hf hall
            go_wp2_with(go_at_call 145;refine C6.out.mono ?_;rintro e w6 ⟨rfl,b⟩;have HK6:=Lib.hid (HK4.out.below b);clear b)
            try rw[Exit.noGoto_ret]
            go_ret;exact⟨rfl,HK6.out.bel⟩
    ·obtain rfl: k = n1:=by omega
     obtain⟨ran,lt,lc,hw,htr⟩:=HK2.out.watch;have hG:=HK2.out.good.snoc HR.out HFI.out;have hti:i<t.length:=by rw[HS.out.ht];exact hlt
     have CA:=Lib.hid (add_any (i:Int) A1 k c1 row wr HN1.out (by omega) ((HI1.out.below HK2.out.bel).more HK2.out.lp) (fun x hx=>by
      have h1:=hG.mem (i:=i) (by rw[List.length_take];omega) (x:=x) (by rw[rowT_take t (i+1) i (by omega),rowT_at HROW.out];exact hx)
      have h2:=HF.out.1;have h3:=HM.out.nodes;omega) (fun j=>htr.bound HR.out (by omega) (by rw[HS.out.ht];exact htn) (by omega) j) hw.past)
     have HNX:=Lib.hid (htr.next hti HROW.out HN1.out);have HG:=Lib.hid hG;have HW:=Lib.hid hw;clear hw htr hG hti
     go_wp2_with(go_at_call 146;refine CA.out.mono ?_;rintro e w5 ⟨rfl,hp,b⟩;have HP5:=Lib.hid hp;have HB5:=Lib.hid b;clear hp b)
     go_roundw
     case rel=>exact⟨i+1,by omega,by go_num,rfl,Lib.hid ⟨HK2.out.bel.trans (HB5.out.mono HK2.out.lp),HK2.out.waits.below HB5.out,Nat.le_of_lt HP5.out.lt_,⟨_,_,_,HW.out.turned HB5.out HP5.out,HNX.out⟩,HG.out,HK2.out.lw,HK2.out.lp⟩⟩
     case measure=>simp[intOf];omega
  ·obtain rfl: i = tn:=by omega
   have hrv:r=0:=by
    rw[HRR.out];exact fault_none (by rw[HS.out.ht];exact HK.out.good)
   subst hrv;go_wp2
   try rw[Exit.noGoto_ret]
   go_ret;exact⟨rfl,HK.out.bel⟩
end
open Classical in
noncomputable def schedE (W:List Int) (E:List (Int×Int)) (need:List Int) (cores:Int) (t:List (List Int)):Int:=
 if chkE W E≠0 then chkE W E else if¬(FormOk W need cores/\ ∀r∈t,(r.length:Int)=cores)then 100 else faultV E need cores.toNat t
theorem schedE_bad{W:List Int}{E:List (Int×Int)}{need:List Int}{cores:Int}{t:List (List Int)}(h:chkE W E≠0):schedE W E need cores t=chkE W E:=by unfold schedE;rw[if_pos h]
theorem schedE_form{W:List Int}{E:List (Int×Int)}{need:List Int}{cores:Int}{t:List (List Int)}(h:chkE W E=0)(h2: ¬(FormOk W need cores/\ ∀r∈t,(r.length:Int)=cores)):schedE W E need cores t=100:=by unfold schedE;rw[if_neg (fun q=>q h),if_pos h2]
theorem schedE_fault{W:List Int}{E:List (Int×Int)}{need:List Int}{cores:Int}{t:List (List Int)}(h:chkE W E=0)(h2:FormOk W need cores/\ ∀r∈t,(r.length:Int)=cores):schedE W E need cores t=faultV E need cores.toNat t:=by unfold schedE;rw[if_neg (fun q=>q h),if_neg (fun q=>q h2)]
section
variable {A: Option Addr} {n c: Nat} {F: Option Addr} {m d: Nat} {W: List Int} {E: List (Int × Int)} {N: Option Addr} {nn nc: Nat} {need: List Int} {T: Option Addr} {tn tc: Nat} {t: List (List Int)}
theorem scheck_any(cores:Int)(w:World)(h:IsG w A n c F m d W E)(hS:IsS w N nn nc T tn tc need t):
  Calls Tryz.prog 94 #[.agg #[.slice A n c,.slice F m d],.slice N nn nc,.int .i64 cores,.slice T tn tc] w fun e w'=>e= .returned (.int .i64 (schedE W E need cores t))/\Below w.heap.size w w':=by
 have H:=Lib.hid h;have HS:=Lib.hid hS;obtain⟨w0,hw0⟩: ∃w0,w0=w.alloc (.cells #[.slice A n c,.slice F m d] 25):=⟨_,rfl⟩;have HW0:=Lib.hid hw0;have hb0:Below w.heap.size w w0:=by rw[hw0];exact below_alloc _
 have hs0:w.heap.size<w0.heap.size:=by rw[hw0];simp
 have p0:w0.cell? ⟨w.heap.size,0,none⟩=some (.slice A n c):=by rw[hw0,World.cell?_alloc_at _ _ _ _ rfl];rfl
 have p1:w0.cell? ⟨w.heap.size,1,none⟩=some (.slice F m d):=by rw[hw0,World.cell?_alloc_at _ _ _ _ rfl];rfl
 have HB0:=Lib.hid hb0;have HS0:=Lib.hid hs0;have P0:=Lib.hid p0;have P1:=Lib.hid p1;have C1:=Lib.hid (check_done w0 (h.below hb0));obtain⟨e1,he1⟩: ∃e,e=chkE W E:=⟨_,rfl⟩;rw[<-he1]at C1;have HE1:=Lib.hid he1;obtain⟨r,hr⟩: ∃r,r=schedE W E need cores t:=⟨_,rfl⟩;rw[<-hr];have HR:=Lib.hid hr;have CN:=Lib.hid (fun(W':World) (hS:IsS W' N nn nc T tn tc need t)=>rightNeeds_any (A:=A) (n:=n) (c:=c) (F:=F) (m:=m) (d:=d) (W:=W) (nc:=nc) cores W' hS.hn (by have:=hS.ln;omega) h.hn hS.ints)
 have CR:=Lib.hid (fun(W':World) (hS:IsS W' N nn nc T tn tc need t)=>rightRows_any (tc:=tc) cores W' hS.ht (by have:=hS.lt;omega) hS.rows)
 clear h hS hw0 hb0 hs0 p0 p1 he1 hr
 by_cases hz:e1=0
 ·subst hz
  have HZ:=Lib.hid HE1.out.symm
  by_cases h1:FormOk W need cores
  ·rw [decide_eq_true h1] at CN
   by_cases h2: ∀r∈t,(r.length:Int)=cores
   ·rw [decide_eq_true h2] at CR
    obtain⟨k,rfl⟩: ∃k:Nat,cores=(k:Int):=⟨cores.toNat,by have:=h1.2.2;omega⟩
    have hrv:r=faultV E need k t:=by rw[HR.out,schedE_fault HZ.out ⟨h1,h2⟩,Int.toNat_natCast]
    have CF:=Lib.hid (fun(W':World) (h:IsG W' A n c F m d W E) (hS:IsS W' N nn nc T tn tc need t)=>fault_any W' h hS (chkE_zero.mp HZ.out) h1 (fun r hr=>by have:=h2 r hr;omega))
    rw[<-hrv]at CF;clear h1 h2 hrv;go_enter Tryz.func94,Tryz.ntmps94;go_wp2_with fail;rw[<-HW0.out];refine C1.out.mono ?_
    rintro e w1 ⟨rfl,b⟩;have HB1:=Lib.hid (HB0.out.trans (b.mono HB0.out.size));have q0:=(b.cell HS0.out).trans P0.out;have q1:=(b.cell HS0.out).trans P1.out;have HQ0:=Lib.hid q0;have HQ1:=Lib.hid q1;have HS1:=Lib.hid (Nat.lt_of_lt_of_le HS0.out b.size);clear b;go_wp2_with fail;refine(CN.out _ (HS.out.below HB1.out)).mono ?_
    rintro e w2 ⟨rfl,b⟩;have HB2:=Lib.hid (HB1.out.trans (b.mono HB1.out.size));have q0:=(b.cell HS1.out).trans HQ0.out;have q1:=(b.cell HS1.out).trans HQ1.out;have HS2:=Lib.hid (Nat.lt_of_lt_of_le HS1.out b.size);have HQ0:=Lib.hid q0;have HQ1:=Lib.hid q1;clear b;go_wp2_with fail;refine(CR.out _ (HS.out.below HB2.out)).mono ?_
    rintro e w3 ⟨rfl,b⟩;have HB3:=Lib.hid (HB2.out.trans (b.mono HB2.out.size));have q0:=(b.cell HS2.out).trans HQ0.out;have q1:=(b.cell HS2.out).trans HQ1.out;clear b;go_wp2_with fail;refine(CF.out _ (H.out.below HB3.out) (HS.out.below HB3.out)).mono ?_
    rintro e w4 ⟨rfl,b⟩;have HB4:=Lib.hid (HB3.out.trans (b.mono HB3.out.size));clear b;go_wp2;go_ret;exact⟨rfl,HB4.out⟩
   ·rw [decide_eq_false h2] at CR
    obtain rfl:r=100:=HR.out.trans (schedE_form HZ.out fun q=>h2 q.2)
    clear h1 h2;go_enter Tryz.func94,Tryz.ntmps94;go_wp2_with fail;rw[<-HW0.out];refine C1.out.mono ?_
    rintro e w1 ⟨rfl,b⟩;have HB1:=Lib.hid (HB0.out.trans (b.mono HB0.out.size));have q0:=(b.cell HS0.out).trans P0.out;have q1:=(b.cell HS0.out).trans P1.out;clear b;go_wp2_with fail;refine(CN.out _ (HS.out.below HB1.out)).mono ?_
    rintro e w2 ⟨rfl,b⟩;have HB2:=Lib.hid (HB1.out.trans (b.mono HB1.out.size));clear b q0 q1;go_wp2_with fail;refine(CR.out _ (HS.out.below HB2.out)).mono ?_
    rintro e w3 ⟨rfl,b⟩;have HB3:=Lib.hid (HB2.out.trans (b.mono HB2.out.size));clear b;go_wp2;go_ret;exact⟨rfl,HB3.out⟩
  ·rw [decide_eq_false h1] at CN
   obtain rfl:r=100:=HR.out.trans (schedE_form HZ.out fun q=>h1 q.1)
   clear h1;go_enter Tryz.func94,Tryz.ntmps94;go_wp2_with fail;rw[<-HW0.out];refine C1.out.mono ?_
   rintro e w1 ⟨rfl,b⟩;have HB1:=Lib.hid (HB0.out.trans (b.mono HB0.out.size));have q0:=(b.cell HS0.out).trans P0.out;have q1:=(b.cell HS0.out).trans P1.out;clear b;go_wp2_with fail;refine(CN.out _ (HS.out.below HB1.out)).mono ?_
   rintro e w2 ⟨rfl,b⟩;have HB2:=Lib.hid (HB1.out.trans (b.mono HB1.out.size));clear b q0 q1;go_wp2;go_ret;exact⟨rfl,HB2.out⟩
 ·have hne: (e1 == 0) = false:=by simpa using hz
  obtain rfl:r=e1:=by rw[HR.out,HE1.out];exact schedE_bad (by rw[<-HE1.out];exact hz)
  clear hz;go_enter Tryz.func94,Tryz.ntmps94;go_wp2_with fail;rw[<-HW0.out];refine C1.out.mono ?_
  rintro e w1 ⟨rfl,b⟩;have HB1:=Lib.hid (HB0.out.trans (b.mono HB0.out.size));clear b;go_wp2;go_ret;exact⟨rfl,HB1.out⟩
end
structure IsC(w:World)(A:Option Addr)(n c:Nat)(F:Option Addr)(m d:Nat)(O L:List Int):Prop where
 hn:O.length=n
 hm:L.length=m
 ln:n<=400
 lm:m<=400
 on:Ints w w.heap.size A O
 left:Ints w w.heap.size F L
 hA:A=none->n=0/\c=0
 hF:F=none->m=0/\d=0
 cA:n<=c
theorem IsC.below{w w':World}{A:Option Addr}{n c:Nat}{F:Option Addr}{m d:Nat}{O L:List Int}(h:IsC w A n c F m d O L)(hb:Below w.heap.size w w'):IsC w' A n c F m d O L:=
 ⟨h.hn,h.hm,h.ln,h.lm,(h.on.below hb).more hb.size,(h.left.below hb).more hb.size,h.hA,h.hF,h.cA⟩
def GCq(O L:List Int)(v:Value)(w:World):Prop:=∃ A n c F m d,v= .agg #[.slice A n c,.slice F m d]/\IsC w A n c F m d O L
theorem GCq.below{O L:List Int}{v:Value}{w w':World}(h:GCq O L v w)(hb:Below w.heap.size w w'):GCq O L v w':=by
 obtain⟨A,n,c,F,m,d,h1,h2⟩:=h;exact⟨A,n,c,F,m,d,h1,h2.below hb⟩
theorem IsC.gc{w:World}{A:Option Addr}{n c:Nat}{F:Option Addr}{m d:Nat}{O L:List Int}(h:IsC w A n c F m d O L):GCq O L (.agg #[.slice A n c,.slice F m d]) w:=⟨A,n,c,F,m,d,rfl,h⟩
structure BxDC(w0:World)(A:Option Addr)(n c:Nat)(F:Option Addr)(m d:Nat)(W:List Int)(E:List (Int×Int))(A':Option Addr)(n' c':Nat)(F':Option Addr)(m' d':Nat)(O L:List Int)(w:World):Prop where
 bel:Below w0.heap.size w0 w
 lt:w0.heap.size+1<w.heap.size
 d0:w.cell? ⟨w0.heap.size,0,none⟩=some (.slice A n c)
 d1:w.cell? ⟨w0.heap.size,1,none⟩=some (.slice F m d)
 c0:w.cell? ⟨w0.heap.size+1,0,none⟩=some (.slice A' n' c')
 c1:w.cell? ⟨w0.heap.size+1,1,none⟩=some (.slice F' m' d')
 g0:IsG w0 A n c F m d W E
 k0:IsC w0 A' n' c' F' m' d' O L
section
variable {A: Option Addr} {n c: Nat} {F: Option Addr} {m d: Nat} {W: List Int} {E: List (Int × Int)} {A': Option Addr} {n' c': Nat} {F': Option Addr} {m' d': Nat} {O L: List Int}
theorem BxDC.g{w0 w:World}(h:BxDC w0 A n c F m d W E A' n' c' F' m' d' O L w):IsG w A n c F m d W E:=h.g0.below h.bel
theorem BxDC.k{w0 w:World}(h:BxDC w0 A n c F m d W E A' n' c' F' m' d' O L w):IsC w A' n' c' F' m' d' O L:=h.k0.below h.bel
theorem BxDC.later{w0 w w':World}(h:BxDC w0 A n c F m d W E A' n' c' F' m' d' O L w)(hb:Below (w0.heap.size+1+1) w w'):BxDC w0 A n c F m d W E A' n' c' F' m' d' O L w':=
 ⟨h.bel.trans (hb.mono (by omega)),Nat.lt_of_lt_of_le h.lt hb.size,(hb.cell (by show w0.heap.size<w0.heap.size+1+1;omega)).trans h.d0,(hb.cell (by show w0.heap.size<w0.heap.size+1+1;omega)).trans h.d1,(hb.cell (by show w0.heap.size+1<w0.heap.size+1+1;omega)).trans h.c0,(hb.cell (by show w0.heap.size+1<w0.heap.size+1+1;omega)).trans h.c1,h.g0,h.k0⟩
theorem BxDC.next{w0 w w':World}(h:BxDC w0 A n c F m d W E A' n' c' F' m' d' O L w)(hb:Below w.heap.size w w'):BxDC w0 A n c F m d W E A' n' c' F' m' d' O L w':=h.later (hb.mono h.lt)
theorem BxDC.start{w:World}(hg:IsG w A n c F m d W E)(hk:IsC w A' n' c' F' m' d' O L):BxDC w A n c F m d W E A' n' c' F' m' d' O L ((w.alloc (.cells #[.slice A n c,.slice F m d] 25)).alloc (.cells #[.slice A' n' c',.slice F' m' d'] 37)):=by
 obtain⟨w0,hw0⟩: ∃w0,w0=w.alloc (.cells #[.slice A n c,.slice F m d] 25):=⟨_,rfl⟩;have hs:w0.heap.size=w.heap.size+1:=by rw[hw0];simp
 have hb0:Below w.heap.size w w0:=by rw[hw0];exact below_alloc _
 rw[<-hw0];have hb:Below w.heap.size w (w0.alloc (.cells #[.slice A' n' c',.slice F' m' d'] 37)):=hb0.trans ((below_alloc (w:=w0) _).mono (by omega))
 have e0: ∀j,(w0.alloc (.cells #[.slice A' n' c',.slice F' m' d'] 37)).cell? ⟨w.heap.size,j,none⟩=w0.cell? ⟨w.heap.size,j,none⟩:=fun j=>World.cell?_alloc_lt _ _ _ (by show w.heap.size<w0.heap.size;omega)
 refine⟨hb,by simp[hs],?_,?_,?_,?_,hg,hk⟩
 ·rw[e0,hw0,World.cell?_alloc_at _ _ _ _ rfl];rfl
 ·rw[e0,hw0,World.cell?_alloc_at _ _ _ _ rfl];rfl
 ·rw[World.cell?_alloc_at _ _ _ _ hs.symm];rfl
 ·rw[World.cell?_alloc_at _ _ _ _ hs.symm];rfl
end
theorem over_iff{n:Nat}{E:List (Int×Int)}{L:List Int}(hF:Fits n E)(x:Int):(∀a∈predsL n E x,¬0<leftC L a)↔OverC E L x:=by
 constructor
 ·rintro h ⟨a,b⟩ he rfl hp
  obtain⟨h1,h2,_,_⟩:=hF _ he;refine h a ?_ hp
  unfold predsL;rw[List.mem_filter,decide_eq_true_iff];exact⟨List.mem_map.mpr ⟨a.toNat,by rw[List.mem_range];simp at h2 h1;omega,by simp at h1;simp[Int.ofNat_eq_natCast];omega⟩,he⟩
 ·intro h a ha hp
  unfold predsL at ha;rw[List.mem_filter,decide_eq_true_iff]at ha;exact h _ ha.2 rfl hp
theorem predsL_in{n:Nat}{E:List (Int×Int)}{x a:Int}(h:a∈predsL n E x): ∃q:Nat,a=q/\q<n:=by
 unfold predsL at h;rw[List.mem_filter]at h;obtain⟨q,hq,rfl⟩:=List.mem_map.mp h.1;rw[List.mem_range]at hq;exact⟨q,rfl,hq⟩
open Classical in
noncomputable def crewE (W:List Int) (E:List (Int×Int)) (O L:List Int):Int:=if chkE W E=0 then(if CrewOk W.length E O L then 0 else 110)else chkE W E
theorem crewE_zero{W:List Int}{E:List (Int×Int)}{O L:List Int}:crewE W E O L=0↔May W E/\CrewOk W.length E O L:=by
 unfold crewE
 by_cases h:chkE W E=0
 ·rw [if_pos h]
  by_cases h2:CrewOk W.length E O L
  ·rw[if_pos h2];exact⟨fun _=>⟨chkE_zero.mp h,h2⟩,fun _=>rfl⟩
  ·rw[if_neg h2];exact⟨fun e=>absurd e (by decide),fun e=>absurd e.2 h2⟩
 ·rw[if_neg h];exact⟨fun e=>absurd e h,fun e=>absurd (chkE_zero.mpr e.1) h⟩
theorem crewE_bad{W:List Int}{E:List (Int×Int)}{O L:List Int}(h:chkE W E≠0):crewE W E O L=chkE W E:=if_neg h
theorem crewE_form{W:List Int}{E:List (Int×Int)}{O L:List Int}(h:chkE W E=0)(h2: ¬CrewOk W.length E O L):crewE W E O L=110:=by unfold crewE;rw[if_pos h,if_neg h2]
theorem crewOk_iff{n:Nat}{E:List (Int×Int)}{O L:List Int}:CrewOk n E O L↔(1<=O.length/\O.length<=8/\L.length=n)/\(∀j:Nat,j<L.length->0<=leftC L (j:Int)/\leftC L (j:Int)<=1000)/\(∀j:Nat,j<L.length->leftC L (j:Int)=0->OverC E L (j:Int))/\
    (∀(j:Nat) (x:Int),O[j]? =some x->x= -1\/((0<=x/\x<n)/\leftC L x≠0/\OverC E L x/\x∉O.take j)):=by
  constructor
  · intro h;refine⟨⟨h.lo,h.hi,h.ln⟩,fun j hj=>h.left _ (leftC_mem hj),fun j hj h0=>h.done j (by rw[<-h.ln];exact hj) h0,fun j x hx=> ?_⟩
    rcases h.on x (List.mem_of_getElem? hx)with h1|⟨h1,h2,h3⟩
    · exact .inl h1
    · refine .inr ⟨h1,h2,h3,fun hm=> ?_⟩
      obtain⟨i,hi,he⟩:=List.getElem_of_mem hm;rw[List.length_take]at hi;rw[List.getElem_take]at he;have h4:O[i]? =some x:=by rw[List.getElem?_eq_getElem (by omega)];exact congrArg some he
      have:=idx_once (h.once x (by omega)) hx h4
      omega
  · rintro⟨⟨h1,h2,h3⟩,h4,h5,h6⟩;refine⟨h1,h2,h3,fun z hz=> ?_,fun x hx h0=>h5 x (by omega) h0,fun x hx=> ?_,fun x hx=> ?_⟩
    · obtain⟨j,hj,he⟩:=List.getElem_of_mem hz;have:=h4 j hj;rw[leftC_nat,List.getD_eq_getElem?_getD,List.getElem?_eq_getElem hj]at this
      simp only[Option.getD_some]at this;omega
    · obtain⟨j,hj,he⟩:=List.getElem_of_mem hx;rcases h6 j x (by rw[List.getElem?_eq_getElem hj];exact congrArg some he)with h7|⟨h7,h8,h9,_⟩
      · exact .inl h7
      · exact .inr ⟨h7,h8,h9⟩
    · have key: ∀k,k<=O.length->(O.take k).count x<=1:=by
        intro k
        induction k with
        |zero=>intro _;simp
        | succ k ih =>
          intro hk;rw[count_take_succ (by omega)]
          by_cases hy:O.getD k (-1)=x
          · rw[if_pos hy];rcases h6 k x (getD_idx (by omega) hy)with h7|⟨_,_,_,h7⟩
            · exact absurd h7 hx
            · rw[List.count_eq_zero.mpr h7];omega
          · rw[if_neg hy];exact ih (by omega)
      have:=key O.length (Nat.le_refl _)
      rwa [List.take_length]at this
end Go.Proofs.YtngdbbligebcbabGreatDoor
