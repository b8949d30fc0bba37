import Derived.Test.YtngdbbligebcbabGreatDoorZM9
import Derived.Test.YtngdbbligebcbabGreatDoorZM7
import Derived.Laws.MakeOwn
import Derived.Deep.RegionWith
import Derived.Test.YtngdbbligebcbabGreatDoorZM8
set_option linter.unusedVariables false
set_option maxRecDepth 100000
set_option maxHeartbeats 4000000
namespace Go.Proofs.YtngdbbligebcbabGreatDoor
open Go.RowKit
theorem total_add(z s:Int)(b:Nat)(w:World)(h0:0<=s+z)(h1:s+z<=1000000)(hV:RowV b 3 [.int .i64 s] w):
  Calls Tryz.prog 62 #[.int .i64 z,.pointer (some ⟨b,0,none⟩)] w fun e w'=>e= .returned (.tuple #[])/\w'=w.setCell ⟨b,0,none⟩ (.int .i64 (s+z)):=by
 have hc:=hV.cell (j:=0) rfl;have hf:=hV.frozen 0;have hb:=hV.lt;clear hV;go_enter Tryz.func62,Tryz.ntmps62;go_wp2;go_end0;exact⟨rfl,rfl⟩
section
variable {A: Option Addr} {n c: Nat} {F: Option Addr} {m d: Nat} {W: List Int} {E: List (Int × Int)}
theorem total_done(w:World)(h:IsG w A n c F m d W E):
  Calls Tryz.prog 30 #[.agg #[.slice A n c,.slice F m d]] w fun e w'=>e= .returned (.int .i64 (totalV W E))/\Below w.heap.size w w':=by
 have H:=Lib.hid h;have C:=Lib.hid (fun w' (h:IsG w' A n c F m d W E)=>check_done w' h)
 by_cases hM:May W E
 ·have hn64: n <= 64:=by rw [<- h.hn]; exact hM.nodes
  have HW:=Lib.hid hM.work;rw[chkE_zero.mpr hM]at C;have HT:=Lib.hid (show totalV W E=W.sum by unfold totalV;rw[if_pos hM])
  obtain⟨r,hr⟩: ∃r,r=totalV W E:=⟨_,rfl⟩;rw[<-hr]at HT⊢;obtain⟨w0,hw0⟩: ∃w0,w0=w.alloc (.cells #[.slice A n c,.slice F m d] 25):=⟨_,rfl⟩;have HW0:=Lib.hid hw0;have HN:=Lib.hid h.hn;clear h hM hr hw0;go_enter Tryz.func30,Tryz.ntmps30;go_wp2_with fail;refine(C.out _ (H.out.below (below_alloc _))).mono ?_
  rintro e w1 ⟨rfl,b⟩;have HB:=Lib.hid (show Below w0.heap.size w0 w1 by rw[HW0.out];exact b)
  have HG:=Lib.hid ((H.out.below (below_alloc _)).below b);have hs1:w.heap.size<w1.heap.size:=by have:=b.size;simp at this;exact this
  have hbox0:w1.cell? ⟨w.heap.size,0,none⟩=some (.slice A n c):=(b.cell (by simp)).trans (by rw[World.cell?_alloc_at _ _ _ _ rfl];rfl)
  clear b;go_wp2;have H0:Hid (RowV w1.heap.size 3 [.int .i64 0] (w1.alloc (.cells #[.int .i64 0] 3))):=Lib.hid (RowV.new w1 3 [.int .i64 0]);go_loopw [14] (fun i wr=> ∃(j:Nat) (q:Int),j<=n/\i= .int .i64 j/\0<=q/\q<=1000 * j/\Hid (q=(W.take j).sum)/\Hid (RowV w1.heap.size 3 [.int .i64 q] wr)/\Hid (Below w1.heap.size w1 wr)) (fun i _=>n - (intOf i).toNat)
  case atStart=>exact⟨0,0,Nat.zero_le _,rfl,by omega,by omega,Lib.hid (by simp),H0,Lib.hid (below_alloc _)⟩
  case round=>
   obtain⟨j,q,hj,rfl,hq0,hq1,hqe,HV,HB1⟩:=hrel;clear H0;have hbl:=HV.out.lt
   by_cases hlt:j<n
   ·obtain ⟨bk,o,z,rfl,hbg,hzj,hc1⟩:=HG.out.ints.at_ (k:=j) (by rw [HN.out]; exact hlt)
    have hd1:wr.cell? ⟨bk,o+j,none⟩=some (.int .i64 z):=(HB1.out.cell hbg).trans hc1
    obtain⟨z0,z1⟩:=HW.out z (List.mem_of_getElem? hzj)
    have HQ:=Lib.hid (show q+z=(W.take (j+1)).sum by rw[take_snoc' hzj,List.sum_append,hqe.out];simp)
    have C2:=Lib.hid (total_add z q w1.heap.size wr (by omega) (by omega) HV.out)
    clear hzj hc1
    go_wp2_with(go_at_call 62;refine C2.out.mono ?_;rintro e w3 ⟨rfl,rfl⟩)
    go_roundw
    case rel=>exact⟨j+1,q+z,by omega,by go_num,by omega,by omega,HQ,Lib.hid (HV.out.set 0 (.int .i64 (q+z))),Lib.hid (HB1.out.setCell (Nat.le_refl _) _)⟩
    case measure=>simp[intOf];omega
   ·obtain rfl: j = n:=by omega
    have hl2:W.take j=W:=List.take_of_length_le (by rw[HN.out];omega)
    rw[hl2]at hqe;have hc:=HV.out.cell (j:=0) rfl;go_wp2;go_ret;exact⟨by rw[HT.out,<-hqe.out];rfl,(below_alloc _).trans (by rw[<-HW0.out];exact(HB.out.trans (HB1.out.mono HB.out.size)).mono (by rw[HW0.out];simp))⟩
 ·have HO: totalV W E = 0:=by unfold totalV; rw [if_neg hM]
  rw[HO];have hc:(chkE W E !=0)=true:=by
   rw[bne_iff_ne];exact fun q=>hM (chkE_zero.mp q)
  obtain⟨r,hr⟩: ∃r,r=chkE W E:=⟨_,rfl⟩;rw[<-hr]at C hc;clear h hM hr HO;go_enter Tryz.func30,Tryz.ntmps30;go_wp2_with fail;refine(C.out _ (H.out.below (below_alloc _))).mono ?_
  rintro e w1 ⟨rfl,b⟩;have HB:=Lib.hid ((below_alloc _).trans (b.mono (by simp)))
  clear b;go_wp2;go_ret;exact⟨rfl,HB.out⟩
end
theorem succsL_bits{n T:Nat}{E:List (Int×Int)}(hn:n<=64)(hF:Fits n E){y:Nat}(h: ∀a,T.testBit a=(decide (a<n)&&decide (ed E y a))):succsL n E y=nums (bitsL T):=by
 rw[bitsL_of hn h (fun a ha=>by rw[Bool.and_eq_true,decide_eq_true_iff]at ha;exact ha.1)]
 unfold succsL;apply List.filter_congr;intro a ha;obtain⟨b,hb,rfl⟩:=List.mem_map.mp ha;have hb2:=List.mem_range.mp hb;show decide _=(decide (b<n)&&decide (ed E y b))
 rw[decide_eq_true hb2,Bool.true_and];rfl
theorem succ_step{T y j:Nat}{E:List (Int×Int)}(h: ∀a,T.testBit a=(decide (a<j)&&decide (ed E y a)))(he:ed E y j)(a:Nat):(T ||| 2^j).testBit a=(decide (a<j+1)&&decide (ed E y a)):=by
 rw[or_bit_testBit,h,Bool.eq_iff_iff];simp only[Bool.or_eq_true,Bool.and_eq_true,decide_eq_true_iff];constructor
 ·rintro (⟨k1,k2⟩ | k)
  ·exact⟨by omega,k2⟩
  ·exact⟨by omega,k▸he⟩
 ·rintro ⟨k1,k2⟩
  by_cases hj:j=a
  ·exact .inr hj
  ·exact .inl ⟨by omega,k2⟩
theorem succ_skip{T y j:Nat}{E:List (Int×Int)}(h: ∀a,T.testBit a=(decide (a<j)&&decide (ed E y a)))(he: ¬ed E y j)(a:Nat):T.testBit a=(decide (a<j+1)&&decide (ed E y a)):=by
 rw[h,Bool.eq_iff_iff];simp only[Bool.and_eq_true,decide_eq_true_iff];constructor
 ·rintro ⟨k1,k2⟩
  exact⟨by omega,k2⟩
 ·rintro ⟨k1,k2⟩
  by_cases hj:j=a
  ·exact absurd (hj▸k2) he
  ·exact⟨by omega,k2⟩
section
variable {A: Option Addr} {n c: Nat} {F: Option Addr} {m d: Nat} {W: List Int} {E: List (Int × Int)}
end
def Behind(E:List (Int×Int))(a:Nat)(met:List Nat)(T:Nat):Prop:=∀ x,T.testBit x=true↔x∈met/\Way E a x
section
variable {A: Option Addr} {n c: Nat} {F: Option Addr} {m d: Nat} {W: List Int} {E: List (Int × Int)}
end
section
variable {b0 gb vb ub g n c: Nat} {A A': Option Addr} {W: List Int} {E: List (Int × Int)} {ol: List Int} {ps: List Nat} {us: List Int}
end
section
variable {A: Option Addr} {n c: Nat} {F: Option Addr} {m d: Nat} {W: List Int} {E: List (Int × Int)}
end
def FormOk(W need:List Int)(cores:Int):Prop:=need.length=W.length/\(∀z∈need,1<=z/\z<=1000)/\1<=cores/\cores<=8
instance (W need:List Int) (cores:Int):Decidable (FormOk W need cores):=by unfold FormOk;infer_instance
def badN(z:Int):Bool:=decide (z<1)||decide (1000<z)
theorem badN_any(z:Int)(w:World):Calls Tryz.prog 140 #[.int .i64 z] w fun e w'=>e= .returned (.bool (badN z))/\w'=w:=by
 unfold badN;go_enter Tryz.func140,Tryz.ntmps140;go_wp2
 all_goals
  go_ret;refine⟨?_,rfl⟩
  first|rfl|simp
theorem rowsBad_any(cores:Int)(A1:Option Addr)(n1 c1 gc:Nat)(w:World)(h:w.cell? ⟨gc,0,none⟩=some (.int .i64 cores)):
  Calls Tryz.prog 141 #[.slice A1 n1 c1,.pointer (some ⟨gc,0,none⟩)] w fun e w'=>e= .returned (.bool ((n1:Int) !=cores))/\w'=w:=by
 go_enter Tryz.func141,Tryz.ntmps141;go_wp2;go_ret;exact⟨rfl,rfl⟩
section
variable {A: Option Addr} {n c: Nat} {F: Option Addr} {m d: Nat} {W: List Int} {E: List (Int × Int)} {N: Option Addr} {nn nc: Nat} {need: List Int} {T: Option Addr} {tn tc: Nat} {t: List (List Int)}
theorem needs_any(w:World)(hn:need.length=nn)(hl:nn<=1000)(hI:Ints w w.heap.size N need):
  Calls Tryz.prog 32 #[.slice N nn nc,.func (.func 140) #[] #[]] w fun e w'=>e= .returned (.bool (decide (∃z∈need,badN z=true)))/\w'=w:=by
 refine(has_int N nc nn need 140 #[] (eg_of Tryz.func140 (by kernel_rfl) rfl) (fun k=>match need[k]? with|some z=>badN z|none=>false) (fun _ x=>x=w) w.heap.size hn hl (fun _ x hx=>hx▸hI) (fun k x W' hk hW=> ?_) (decide (∃z∈need,badN z=true)) ?_ w rfl).mono ?_
 ·subst hW
  have:=badN_any x W';simp only[hk];exact this.mono fun e w' h=>h
 ·rw [decide_eq_true_iff]
  constructor
  ·rintro ⟨z,hz,hb⟩
   obtain⟨j,hj,he⟩:=List.getElem_of_mem hz;exact⟨j,by omega,by rw[List.getElem?_eq_getElem hj,he];exact hb⟩
  ·rintro ⟨j,hj,hb⟩
   have hj':j<need.length:=by omega
   rw[List.getElem?_eq_getElem hj']at hb
   exact⟨_,List.getElem_mem hj',hb⟩
 ·rintro e w' ⟨rfl,k,hk⟩
  exact⟨rfl,hk⟩
theorem form_iff(cores:Int)(hn:need.length=nn)(hW:W.length=n):FormOk W need cores↔nn=n/\ ¬(∃z∈need,badN z=true)/\1<=cores/\cores<=8:=by
 unfold FormOk;rw[hn,hW];constructor
 ·rintro ⟨h1,h2,h3,h4⟩
  refine⟨h1,fun⟨z,hz,hb⟩=> ?_,h3,h4⟩
  have:=h2 z hz;simp[badN]at hb;omega
 ·rintro ⟨h1,h2,h3,h4⟩
  refine⟨h1,fun z hz=> ?_,h3,h4⟩
  apply Classical.byContradiction
  intro hb;refine h2 ⟨z,hz,?_⟩
  simp[badN];omega
theorem rightNeeds_any(cores:Int)(w:World)(hn:need.length=nn)(hl:nn<=1000)(hW:W.length=n)(hI:Ints w w.heap.size N need):
    Calls Tryz.prog 121 #[.agg #[.slice A n c, .slice F m d], .slice N nn nc, .int .i64 cores] w fun e w'=>e= .returned (.bool (decide (FormOk W need cores)))/\Below w.heap.size w w':=by
  have hF:=form_iff cores hn hW;have C:=Lib.hid (fun(W':World) (hI:Ints W' W'.heap.size N need)=>needs_any (nc:=nc) W' hn hl hI)
  have HI:Hid (Ints (w.alloc (.cells #[.slice A n c, .slice F m d] 25)) (w.alloc (.cells #[.slice A n c, .slice F m d] 25)).heap.size N need):=Lib.hid ((hI.alloc (Nat.le_refl _) _).more (by simp))
  obtain⟨r,hr⟩: ∃r,r=decide (FormOk W need cores):=⟨_,rfl⟩;obtain⟨b,hb⟩: ∃b,b=decide (∃z∈need,badN z=true):=⟨_,rfl⟩;rw[<-hr];rw[<-hb]at C;have hrv:r=decide (nn=n/\b=false/\1<=cores/\cores<=8):=by
    rw[hr];refine decide_eq_decide.mpr (hF.trans ?_)
    rw[hb,decide_eq_false_iff_not]
  clear hF hI hr hb hn hW hl
  by_cases h1:nn=n
  · subst h1;cases b with
    | true =>
      obtain rfl:r=false:=by rw[hrv];simp
      clear hrv;go_enter Tryz.func121,Tryz.ntmps121;go_wp2_with fail;refine(C.out _ HI.out).mono ?_
      rintro e w1 ⟨rfl,rfl⟩;go_wp2;go_ret;exact⟨rfl,below_alloc _⟩
    | false =>
      by_cases h2:1<=cores
      · obtain rfl:r=decide (cores<=8):=by rw[hrv];simp[h2]
        clear hrv;go_enter Tryz.func121,Tryz.ntmps121;go_wp2_with fail;refine(C.out _ HI.out).mono ?_
        rintro e w1 ⟨rfl,rfl⟩;go_wp2;go_ret;exact⟨rfl,below_alloc _⟩
      · obtain rfl:r=false:=by rw[hrv];simp[h2]
        clear hrv;have h2':decide (1<=cores)=false:=decide_eq_false h2;clear h2;go_enter Tryz.func121,Tryz.ntmps121;go_wp2_with fail;refine(C.out _ HI.out).mono ?_
        rintro e w1 ⟨rfl,rfl⟩;go_wp2;go_ret;exact⟨rfl,below_alloc _⟩
  · obtain rfl:r=false:=by rw[hrv];simp[h1]
    clear hrv;have h1':((nn:Int)==(n:Int))=false:=by simpa using(fun q:(nn:Int)=(n:Int)=>h1 (by omega))
    clear C h1;go_enter Tryz.func121,Tryz.ntmps121;go_wp2;go_ret;exact⟨rfl,below_alloc _⟩
theorem rightRows_any(cores:Int)(w:World)(ht:t.length=tn)(hl:tn<=1000)(hT:Trc w w.heap.size T t):
  Calls Tryz.prog 122 #[.int .i64 cores,.slice T tn tc] w fun e w'=>e= .returned (.bool (decide (∀r∈t,(r.length:Int)=cores)))/\Below w.heap.size w w':=by
 obtain⟨w0,hw0⟩: ∃w0,w0=w.alloc (.cells #[.int .i64 cores] 3):=⟨_,rfl⟩;have hc:w0.cell? ⟨w.heap.size,0,none⟩=some (.int .i64 cores):=by rw[hw0,World.cell?_alloc_at _ _ _ _ rfl];rfl
 have hb0:Below w.heap.size w w0:=by rw[hw0];exact below_alloc _
 have hT0:Trc w0 w.heap.size T t:=hT.below hb0;obtain⟨b,hb⟩: ∃b,b=decide (∀r∈t,(r.length:Int)=cores):=⟨_,rfl⟩;rw[<-hb];have C:=Lib.hid (has_row T tc tn t 141 #[.pointer (some ⟨w.heap.size,0,none⟩)] (eg_of Tryz.func141 (by kernel_rfl) rfl) (fun k=>match t[k]? with|some r=>((r.length:Int) !=cores)|none=>false) (fun _ x=>x=w0) w.heap.size ht hl (fun _ x hx=>hx▸hT0) (fun k xs A1 n1 c1 W' hk hn1 _ _ hW=>by
   subst hW;have:=rowsBad_any cores A1 n1 c1 w.heap.size W' hc;simp only[hk,hn1];exact this.mono fun e w' h=>h) (!b) (by
   rw[hb];constructor
   ·intro h
    have h': ¬ ∀r∈t,(r.length:Int)=cores:=by simpa using h
    apply Classical.byContradiction
    intro hno;refine h' fun r hr=> ?_
    obtain⟨j,hj,he⟩:=List.getElem_of_mem hr;apply Classical.byContradiction;intro hne;refine hno ⟨j,by omega,?_⟩
    simp only[List.getElem?_eq_getElem hj,he]
    simpa using hne
   ·rintro ⟨j,hj,h⟩
    have hj':j<t.length:=by omega
    simp only[List.getElem?_eq_getElem hj']at h
    have h': ¬ ∀r∈t,(r.length:Int)=cores:=fun hall=>by
     have:=hall _ (List.getElem_mem hj');rw[this]at h;simp at h
    simpa using h') w0 rfl)
 have HW0:=Lib.hid hw0;have HB0:=Lib.hid hb0;clear hT hT0 ht hb hb0 hc;subst hw0;go_enter Tryz.func122,Tryz.ntmps122;go_wp2_with fail;refine C.out.mono ?_
 rintro e w1 ⟨rfl,k,rfl⟩;go_wp2;go_ret;exact⟨by simp,HB0.out⟩
end
theorem rows_cell_info:(Tryz.prog.info? 22).map (fun i=>(i.zero,i.size,i.bytes))=some (some (.slice none 0 0),1,24):=by kernel_rfl
theorem make_rows(n:Nat)(hn:n<=1000)(W:World):(Instr.makeSlice 29 (.int .i64 n) (.int .i64 n)).run Tryz.prog W= .ok (.slice (some ⟨W.heap.size,0,none⟩) n n) (W.alloc (.cells (List.replicate n (Value.slice none 0 0)).toArray 22)):=by
  obtain⟨i0,hi,hz0,hz1,hz2⟩: ∃i,Tryz.prog.info? 22=some i/\i.zero=some (.slice none 0 0)/\i.size=1/\i.bytes=24:=by
    have h:=rows_cell_info;cases hi:Tryz.prog.info? 22 with
    |none=>rw[hi]at h;cases h
    | some i =>
      rw[hi]at h;simp at h;exact⟨i,rfl,h.1,h.2.1,h.2.2⟩
  have h:=run_make (P:=Tryz.prog) W 29 22 i0 (.slice none 0 0) Tryz.underlying29 hi hz0 .i64 .i64 n n (by omega) (by omega) (by rw[hz2];omega) (by omega)
  rw[hz1]at h;have e:madeCells (Value.slice none 0 0).cells (((n:Int)).toNat * 1)=(List.replicate n (Value.slice none 0 0)).toArray:=by
    apply Array.toList_inj.mp
    rw[show(Value.slice none 0 0).cells= #[Value.slice none 0 0]from rfl,toList_madeCells_one]
    simp
  rw[e]at h;exact h
theorem Ints.stored{w:World}{B g:Nat}{A:Option Addr}{zs:List Int}{t:TypeId}{vs:List Value}(h:Ints w B A zs)(hr:RowV g t vs w)(hs: ∀v∈vs,∃A n c,v= .slice A n c)(j:Nat)(v:Value):Ints (w.setCell ⟨g,j,none⟩ v) B A zs:=fun hn=>by
 obtain⟨b,off,e,hb,hc⟩:=h hn;refine⟨b,off,e,hb,fun k hk=> ?_⟩
 rw[World.cell?_setCell_other]
 ·exact hc k hk
 ·intro e
  have h1:=hc k hk;have hbg:b=g:=(congrArg Addr.block e).symm;rw[hbg,cell_of_row _ _ _ _ _ _ hr]at h1;obtain⟨A',n',c',h2⟩:=hs _ (List.mem_of_getElem? (by simpa using h1))
  cases h2
section
variable {A: Option Addr} {n c: Nat} {F: Option Addr} {m d: Nat} {W: List Int} {E: List (Int × Int)}
structure PredsI(g n k:Nat)(W:List Int)(E:List (Int×Int))(vs:List Value)(w:World):Prop where
 row:RowV g 22 vs w
 len:vs.length=n
 sl: ∀v∈vs,∃A n c,v= .slice A n c
 done: ∀j,j<k-> ∃A1 c1,vs[j]? =some (.slice A1 (predsV W E (j:Int)).length c1)/\Ints w w.heap.size A1 (predsV W E (j:Int))
theorem PredsI.below{g k:Nat}{vs:List Value}{w w':World}(h:PredsI g n k W E vs w)(hb:Below w.heap.size w w'):PredsI g n k W E vs w':=
 ⟨h.row.below hb h.row.lt,h.len,h.sl,fun j hj=>by
  obtain⟨A1,c1,h1,h2⟩:=h.done j hj;exact⟨A1,c1,h1,(h2.below hb).more hb.size⟩⟩
theorem PredsI.store{g k:Nat}{vs:List Value}{w:World}(h:PredsI g n k W E vs w)(hk:k<n){A1:Option Addr}{c1 l:Nat}(hl:(predsV W E (k:Int)).length=l)(hI:Ints w w.heap.size A1 (predsV W E (k:Int))):
  PredsI g n (k+1) W E (vs.set k (.slice A1 l c1)) (w.setCell ⟨g,k,none⟩ (.slice A1 l c1)):=by
 have hs:(w.setCell ⟨g,k,none⟩ (.slice A1 l c1)).heap.size=w.heap.size:=by simp
 refine⟨h.row.set k _,by rw[List.length_set];exact h.len,fun v hv=> ?_,fun j hj=> ?_⟩
 ·rcases List.mem_or_eq_of_mem_set hv with hv | rfl
  ·exact h.sl v hv
  ·exact⟨_,_,_,rfl⟩
 ·rw [List.getElem?_set]
  by_cases e:k=j
  ·subst e
   rw[if_pos rfl,if_pos (by rw[h.len];exact hk),hl,hs]
   exact⟨A1,c1,rfl,hI.stored h.row h.sl _ _⟩
  ·rw [if_neg e,hs]
   obtain⟨A2,c2,h1,h2⟩:=h.done j (by omega)
   exact⟨A2,c2,h1,h2.stored h.row h.sl _ _⟩
structure Waits(B g n:Nat)(W:List Int)(E:List (Int×Int))(w:World):Prop where
 lt:g<B
 at_: ∀k,k<n-> ∃A1 c1,w.cell? ⟨g,k,none⟩=some (.slice A1 (predsV W E (k:Int)).length c1)/\Ints w B A1 (predsV W E (k:Int))
theorem Waits.below{B g:Nat}{w w':World}(h:Waits B g n W E w)(hb:Below B w w'):Waits B g n W E w':=
 ⟨h.lt,fun k hk=>by
  obtain⟨A1,c1,h1,h2⟩:=h.at_ k hk;exact⟨A1,c1,(hb.cell h.lt).trans h1,h2.below hb⟩⟩
theorem Waits.more{B B' g:Nat}{w:World}(h:Waits B g n W E w)(hB:B<=B'):Waits B' g n W E w:=
 ⟨Nat.lt_of_lt_of_le h.lt hB,fun k hk=>by
  obtain⟨A1,c1,h1,h2⟩:=h.at_ k hk;exact⟨A1,c1,h1,h2.more hB⟩⟩
theorem PredsI.waits{g:Nat}{vs:List Value}{w:World}(h:PredsI g n n W E vs w):Waits w.heap.size g n W E w:=
 ⟨h.row.lt,fun k hk=>by
  obtain⟨A1,c1,h1,h2⟩:=h.done k hk;exact⟨A1,c1,h.row.cell h1,h2⟩⟩
theorem preds10_any(w:World)(h:IsG w A n c F m d W E):
  Calls Tryz.prog 143 #[.agg #[.slice A n c,.slice F m d]] w fun e w'=> ∃g,e= .returned (.slice (some ⟨g,0,none⟩) n n)/\Waits w'.heap.size g n W E w'/\Below w.heap.size w w'/\w.heap.size<=g:=by
 have ln:=h.ln;have H:=Lib.hid h;have HN:=Lib.hid h.hn;have C:=Lib.hid (fun W' (x:Int) (h:IsG W' A n c F m d W E)=>preds_done W' x h)
 have HM:=Lib.hid (make_rows n (by omega))
 obtain⟨w0,hw0⟩: ∃w0,w0=w.alloc (.cells #[.slice A n c,.slice F m d] 25):=⟨_,rfl⟩;have HW0:=Lib.hid hw0;have hs0:w0.heap.size=w.heap.size+1:=by rw[hw0];simp
 have hb0:Below w.heap.size w w0:=by rw[hw0];exact below_alloc _
 have p0:w0.cell? ⟨w.heap.size,0,none⟩=some (.slice A n c):=by rw[hw0,World.cell?_alloc_at _ _ _ _ rfl];rfl
 have p1:w0.cell? ⟨w.heap.size,1,none⟩=some (.slice F m d):=by rw[hw0,World.cell?_alloc_at _ _ _ _ rfl];rfl
 have HB0:=Lib.hid hb0;have P0:=Lib.hid p0;have HS0:=Lib.hid hs0;have P1:=Lib.hid p1;have hmk:=HM.out;have X0:Hid (PredsI (w.heap.size+1) n 0 W E (List.replicate n (Value.slice none 0 0)) (w0.alloc (.cells (List.replicate n (Value.slice none 0 0)).toArray 22))):=Lib.hid ⟨by
   have:=RowV.new w0 22 (List.replicate n (Value.slice none 0 0));rw[hs0]at this;exact this,by simp,fun v hv=>⟨none,0,0,(List.eq_of_mem_replicate hv)⟩,fun j hj=>absurd hj (Nat.not_lt_zero _)⟩
 have XB:Hid (Below (w.heap.size+1) w0 (w0.alloc (.cells (List.replicate n (Value.slice none 0 0)).toArray 22))):=Lib.hid (by rw[<-hs0];exact below_alloc _)
 clear h hb0 HM hw0 p0 p1 hs0;rw[HW0.out]at X0 XB;go_enter Tryz.func143,Tryz.ntmps143;go_wp2;go_loopw [11] (fun v wr=> ∃(k:Nat) (vs:List Value),k<=n/\v= .int .i64 k/\Hid (PredsI (w.heap.size+1) n k W E vs wr)/\Hid (Below (w.heap.size+1) w0 wr)) (fun v _=>n - (intOf v).toNat)
 case atStart=>exact⟨0,_,Nat.zero_le _,rfl,X0,by rw[HW0.out];exact XB⟩
 case round=>
  obtain⟨k,vs,hk,rfl,HK,HB⟩:=hrel;clear X0 XB hmk;have q0:wr.cell? ⟨w.heap.size,0,none⟩=some (.slice A n c):=(HB.out.cell (Nat.lt_succ_self _)).trans P0.out
  have q1:wr.cell? ⟨w.heap.size,1,none⟩=some (.slice F m d):=(HB.out.cell (Nat.lt_succ_self _)).trans P1.out
  have HBW:=Lib.hid (HB0.out.trans (HB.out.mono (Nat.le_succ _)))
  by_cases hlt:k<n
  ·have C2:=Lib.hid (C.out wr (k: Int) (H.out.below HBW.out))
   go_wp2_with fail;refine C2.out.mono ?_
   rintro e w2 ⟨A1,c1,rfl,hI,hb⟩;have HI:=Lib.hid hI;have HB2:=Lib.hid hb;have HK2:=Lib.hid (HK.out.below hb);obtain⟨l,hl⟩: ∃l,l=(predsV W E (k:Int)).length:=⟨_,rfl⟩;rw[<-hl];have HL:=Lib.hid hl;have hrow:=HK2.out.row;obtain⟨v0,hv0⟩: ∃v0,vs[k]? =some v0:=⟨_,List.getElem?_eq_getElem (by rw[HK.out.len];exact hlt)⟩
   have hcell:=hrow.cell hv0;have hfr:=hrow.frozen k;have hglt:=hrow.lt;clear hI hb hl hrow hv0 q0 q1;go_wp2;go_roundw
   case rel=>exact⟨k+1,_,by omega,by go_num,Lib.hid (HK2.out.store hlt HL.out.symm HI.out),Lib.hid ((HB.out.trans (HB2.out.mono (by rw[<-HS0.out];exact HB.out.size))).setCell (Nat.le_refl _) _)⟩
   case measure=>simp[intOf];omega
  ·obtain rfl: k = n:=by omega
   go_wp2;go_ret
   exact⟨_,rfl,HK.out.waits,HBW.out,Nat.le_succ _⟩
end
end Go.Proofs.YtngdbbligebcbabGreatDoor
