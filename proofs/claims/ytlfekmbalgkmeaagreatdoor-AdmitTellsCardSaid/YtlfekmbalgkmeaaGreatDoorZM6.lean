import Derived.Test.YtlfekmbalgkmeaaGreatDoorZM5
import Derived.Test.YtlfekmbalgkmeaaGreatDoorZM2
import Derived.Shelf.Abstract
import Derived.Test.YtlfekmbalgkmeaaGreatDoorChecked
import Derived.WalkKit
import Derived.WalkSmall
import Derived.Laws.BitsAllLaws
import Derived.Lib.Hide
import Derived.Laws.CopyRow
import Derived.Laws.CopyOwn
import Derived.Laws.MakeOwn
import Derived.Deep.RegionLaw
import Derived.OwnWalk
import Derived.Shelf.SlSortCmp.Insertion
import Derived.Laws.Rows
set_option linter.unusedSimpArgs false
set_option linter.unnecessarySimpa false
set_option linter.unusedVariables false
set_option maxRecDepth 100000
set_option maxHeartbeats 8000000
namespace Go.Proofs.YtlfekmbalgkmeaaGreatDoor
open Go Go.RowKit
theorem wpList_pushS{ops:Array Oper}{rest:List Oper}{o:Oper}{a:Act}{Q:Exit->Act->World->Prop}(hgd:o.guard=none)(s x:Operand)
    (ho:o.op= .call {callee:= .builtin .append,args:= #[s,x],argTypes:= #[25,25]})
    (w1:World) (base:Nat) (v:Value) (es:List Shp) (t l m d p:Int) (len:Nat) (hlen:es.length=len) (hl:len<=900) (hO:OwnS w1 base v es) (hB:base<=w1.heap.size)
    (hs:a.eval s=v) (hx:a.eval x= .slice (some ⟨w1.heap.size,0,none⟩) 1 1)
    (h: ∀F' d' w',OwnS w' base (.slice F' (len+1) d') (es++ [⟨t,l,m,d,p⟩])->Below base w1 w'->wpList Tryz.prog ops Q rest (a.put o.dst (.slice F' (len+1) d')) w'):
    wpList Tryz.prog ops Q (o::rest) a (w1.alloc (.cells #[.int .i64 t, .int .i64 l, .int .i64 m, .int .i64 d, .int .i64 p] 44)):=by
  obtain⟨j0,hj0,hy0,hy1,hy2⟩:=shape_info;subst hlen;refine wpList_append_own _ hgd s x 25 ho base 44 j0 (.agg #[.int .i64 0, .int .i64 0, .int .i64 0, .int .i64 0, .int .i64 0]) 5 40 Tryz.underlying25 hj0 hy0 hy1 hy2 rfl (by omega) v es.length (flatS es) hs (own_below hO (below_alloc _)) ⟨w1.heap.size,0,none⟩ 1 1 [.int .i64 t, .int .i64 l, .int .i64 m, .int .i64 d, .int .i64 p] hx rfl ?_ ?_
    (by unfold maxLen;omega) (by omega) (by simp;omega) ?_
  · intro j u hu;rw[addr_add,World.cell?_alloc_at _ _ _ _ rfl]
    match j with
    | 0 => obtain rfl : Value.int .i64 t = u := by simpa using hu
           rfl
    | 1 => obtain rfl : Value.int .i64 l = u := by simpa using hu
           rfl
    | 2 => obtain rfl : Value.int .i64 m = u := by simpa using hu
           rfl
    | 3 => obtain rfl : Value.int .i64 d = u := by simpa using hu
           rfl
    | 4 => obtain rfl : Value.int .i64 p = u := by simpa using hu
           rfl
    |j+5=>simp at hu
  · intro u hu;rcases(by simpa using hu:u= .int .i64 t\/u= .int .i64 l\/u= .int .i64 m\/u= .int .i64 d\/u= .int .i64 p)with rfl|rfl|rfl|rfl|rfl<;>rfl
  · intro v' w' hown' hg _;have hO':OwnS w' base v' (es++ [⟨t,l,m,d,p⟩]):=by
      unfold OwnS;rw[List.length_append,List.length_singleton,flatS_app];exact hown'
    obtain⟨F',d',rfl,_⟩:=hO'.slice;rw[show(es++ [(⟨t,l,m,d,p⟩:Shp)]).length=es.length+1 by simp]at hO'⊢
    exact h F' d' w' hO' (((Below.refl base w1).alloc hB _).grown hg (by simp;omega) (fun k hk=>(World.ownsRow.lt hO k hk).1))
theorem OwnS.nil(w:World)(base:Nat):OwnS w base (.slice none 0 0) []:=⟨rfl,.inl ⟨rfl,rfl⟩⟩
theorem maybe_any(m:Int)(w:World):Calls Tryz.prog 118 #[.int .i64 m] w fun e w'=>e= .returned (.bool (decide (0<=m/\m<=8)))/\w=w':=by
 by_cases h0:0<=m
 ·by_cases h8: m <= 8
  ·rw [decide_eq_true ⟨h0,h8⟩]
   go_enter Tryz.func118,Tryz.ntmps118;go_wp2;go_ret;exact⟨rfl,rfl⟩
  ·rw [decide_eq_false (fun q => h8 q.2)]
   go_enter Tryz.func118,Tryz.ntmps118;go_wp2;go_ret;exact⟨rfl,rfl⟩
 ·rw [decide_eq_false (fun q => h0 q.1)]
  go_enter Tryz.func118,Tryz.ntmps118;go_wp2;go_ret;exact⟨rfl,rfl⟩
section
variable {A P: Option Addr} {n c m d: Nat} {es: List Shp} {at_: List Int}
theorem on_any(k:Int)(w:World)(hn:es.length=n)(hl:n<=800)(hS:Shps w w.heap.size A es)(hm:at_.length=m)(hm2:m<=1000)(hP:Ints w w.heap.size P at_):
  Calls Tryz.prog 156 #[.slice A n c,.slice P m d,.int .i64 k] w (GotShps (onP es at_ k) w):=by
 have HS:=Lib.hid hS;have HP:=Lib.hid hP;obtain⟨q,hq⟩: ∃q,q=min n m:=⟨_,rfl⟩;have hmin:min (n:Int) (m:Int)=(q:Int):=by omega
 have HQ:=Lib.hid hq;have HE:Hid (onP (es.take q) (at_.take q) k=onP es at_ k):=Lib.hid (by rw[hq,<-hn,<-hm];exact onP_min es at_ k)
 have HN:=Lib.hid (show es.length=n/\at_.length=m/\q<=n/\q<=m from⟨hn,hm,by omega,by omega⟩)
 have hq8:q<=800:=by omega
 have hcases:(m<n/\q=m)\/(¬m<n/\q=n):=by omega
 clear hn hS hm hP hq hl hm2 hmin;rcases hcases with⟨h,rfl⟩|⟨h,rfl⟩
 all_goals
  go_enter Tryz.func156,Tryz.ntmps156;go_wp2;go_loopw [7,14] (fun v i wr=> ∃(j len:Nat) (F:Option Addr) (f:Nat),j<=q/\len<=j/\i= .int .i64 j/\v= .slice F len f/\Hid (len=(onP (es.take j) (at_.take j) k).length)/\Hid (OwnS wr w.heap.size (.slice F len f) (onP (es.take j) (at_.take j) k))/\Hid (Below w.heap.size w wr)) (fun _ i _=>q - (intOf i).toNat)
  case atStart=>exact⟨0,0,none,0,Nat.zero_le _,Nat.le_refl _,rfl,rfl,Lib.hid (by simp[onP]),Lib.hid (by simp only[List.take_zero,onP];exact OwnS.nil _ _),Lib.hid (Below.refl _ _)⟩
  case round=>
   obtain⟨j,len,F,f,hj,hlj,rfl,rfl,HL,HO,HI⟩:=hrel
   by_cases hlt:j<q
   ·obtain ⟨bk,off,t,l,mm,dd,pp,rfl,hbg,hek,d1,d2,d3,d4,d5⟩:=(HS.out.below HI.out).at_ (k:=j) (by have:=HN.out; omega)
    obtain⟨b3,o3,x,rfl,hb3,hx,d6⟩:=(HP.out.below HI.out).at_ (k:=j) (by have:=HN.out;omega)
    have HSN:=Lib.hid (onP_snoc (c:=k) hek hx);clear hek hx
    by_cases hxk:x=k
    ·subst hxk
     rw[if_pos rfl]at HSN
     go_wp2_with(at_builtin;refine wpList_pushS rfl _ _ rfl wr w.heap.size _ _ t l mm dd pp len HL.out.symm (by omega) HO.out HI.out.size rfl rfl ?_;intro F' d' w3 hO3 hb3;have HO3:=Lib.hid hO3;have HI3:=Lib.hid (HI.out.trans hb3);clear hO3 hb3)
     go_roundw
     case rel=>exact⟨j+1,len+1,F',d',by omega,by omega,by go_num,rfl,Lib.hid (by rw[HSN.out,List.length_append,<-HL.out];rfl),Lib.hid (by rw[HSN.out];exact HO3.out),HI3⟩
     case measure=>simp[intOf];omega
    ·rw [if_neg hxk,List.append_nil] at HSN
     go_wp2;go_roundw
     case rel=>exact⟨j+1,len,F,f,by omega,by omega,by go_num,rfl,Lib.hid (by rw[HSN.out];exact HL.out),Lib.hid (by rw[HSN.out];exact HO.out),HI⟩
     case measure=>simp[intOf];omega
   ·obtain rfl: q = j:=by omega
    rw[HE.out]at HL HO;go_wp2;go_ret;exact⟨F,f,by rw[<-HL.out];rfl,by rw[<-HL.out];exact HO.out,HI.out⟩
theorem on_n(k:Int)(w:World)(hn:es.length=n)(hl:n<=800)(hS:Shps w w.heap.size A es)(hm:at_.length=m)(hm2:m<=1000)(hP:Ints w w.heap.size P at_):
  Calls Tryz.prog 156 #[.slice A n c,.slice P m d,.int .i64 k] w fun e w'=> ∃A1 n1 c1,e= .returned (.slice A1 n1 c1)/\n1<=n/\(onP es at_ k).length=n1/\OwnS w' w.heap.size (.slice A1 n1 c1) (onP es at_ k)/\Below w.heap.size w w':=by
 refine(on_any (c:=c) (d:=d) k w hn hl hS hm hm2 hP).mono ?_
 rintro e w' ⟨A1,c1,rfl,ho,hb⟩;exact⟨A1,_,c1,rfl,by rw[<-hn];exact onP_len _ _ _,rfl,ho,hb⟩
end
theorem existsB(q:Prop): ∃r:Bool,r=true↔q:=by
 by_cases h:q
 ·exact⟨true,fun _=>h,fun _=>rfl⟩
 ·exact⟨false,fun k=>Bool.noConfusion k,fun k=>absurd k h⟩
section
variable {A P: Option Addr} {n c m d: Nat} {es: List Shp} {at_: List Int}
end
theorem and_small: ∀n:Fin 32,bits .and .u64 (n.1:Int) 4294967295=n.1:=by decide
theorem mul64_one(n:Nat)(hn:n<=31)(w:World):Calls Tryz.prog 181 #[.int .u64 1,.int .u64 n] w fun e w'=>e= .returned (.tuple #[.int .u64 0,.int .u64 n])/\w=w':=by
 have h1:bits .and .u64 1 4294967295=1:=by decide
 have h0:bits .and .u64 0 4294967295=0:=by decide
 have h2:bits .and .u64 (n:Int) 4294967295=n:=and_small ⟨n,by omega⟩
 have h3:(n:Int)/4294967296=0:=by omega
 have h4:IntKind.u64.wrap (n:Int)=n:=by simp[IntKind.wrap,IntKind.signed,IntKind.bits];omega
 have h5:IntKind.u64.wrap 0=0:=by decide
 clear hn;go_enter Tryz.func181,Tryz.ntmps181;go_wp2;refine bodyPost_ret (v:=.tuple #[.int .u64 0,.int .u64 n]) ?_ rfl ⟨rfl,rfl⟩
 simp[results,Tryz.results181,go_sem,h0,h1,h2,h3,h4,h5]
theorem mul_one(n:Nat)(hn:n<=31)(w:World):Calls Tryz.prog 174 #[.int .u64 1,.int .u64 n] w fun e w'=>e= .returned (.tuple #[.int .u64 0,.int .u64 n])/\w=w':=by
 have C:=Lib.hid (fun W=>mul64_one n hn W)
 clear hn;go_enter Tryz.func174,Tryz.ntmps174;go_wp2_with fail;refine(C.out _).mono ?_
 rintro e w1 ⟨rfl,rfl⟩;go_wp2;refine bodyPost_ret (v:=.tuple #[.int .u64 0,.int .u64 n]) ?_ rfl ⟨rfl,rfl⟩
 simp[results,Tryz.results174,go_sem]
theorem step_copy{P:Program}{ops:Array Oper}{o:Oper}{a:Act}{w:World}{K:Act->World->Prop}{Q:Exit->Act->World->Prop}{E:Prop}(hgd:o.guard=none)(d s:Operand)(dT sT:TypeId)
  (ho:o.op= .call {callee:=.builtin .copy,args:=#[d,s],argTypes:=#[dT,sT]}) (elem:TypeId) (hu:P.underlying dT=some (.slice elem)) (hsz:(P.info? elem).map (·.size)=some 1)
  (g off dLen dCap:Nat) (ad:Addr) (sLen sCap:Nat) (hd:a.eval d= .slice (some ⟨g,off,none⟩) dLen dCap) (hs:a.eval s= .slice (some ad) sLen sCap)
  (cur:Array Value) (t:TypeId) (hg:w.heap[g]? =some (.cells cur t (0,0))) (cs:List Value) (hn:cs.length=Nat.min sLen dLen)
  (hsrc: ∀j v,cs[j]? =some v->w.cell? (ad.add j)=some v) (hfit:off+cs.length<=cur.size) (h1: ∀v∈cs,v.oneCell'=true)
  (hK:K (a.put o.dst (goInt cs.length)) (w.setRow g (cur.toList.take off++(cs++cur.toList.drop (off+cs.length))).toArray)):
  if Region.wanted o (yielded ops a.tmps)=true then Oper.wp P o a w K Q else E:=by
 have hw:Region.wanted o (yielded ops a.tmps)=true:=by simp[Region.wanted,hgd]
 rw[if_pos hw];have hrun:=run_copy_row (P:=P) w dT sT o.type elem g off dLen dCap ad sLen sCap cur t cs hu hsz hg hn hsrc hfit h1;unfold Oper.wp;simp[execOp,ho,resolve,invoke,builtin,hd,hs,hrun,Result.andThen];rw[Oper.upon_value]
 simpa using hK
def repC(z:Int)(n k:Nat):List Value:=List.replicate k (.int .i64 z)++List.replicate (n - k) (.int .i64 0)
theorem repC_next{z:Int}{n k j:Nat}(h:k+j<=n):(repC z n k).take k++(List.replicate j (.int .i64 z)++(repC z n k).drop (k+j))=repC z n (k+j):=by
 rw[<-List.append_assoc];unfold repC;rw[List.take_append_of_le_length (by simp),List.take_of_length_le (by simp),List.drop_append,List.drop_of_length_le (by simp),List.length_replicate,List.nil_append,List.drop_replicate]
 rw[<-List.replicate_append_replicate];congr 2;omega
theorem int_info16: ∃i,Tryz.prog.info? 3=some i/\i.zero=some (.int .i64 0)/\i.size=1/\i.bytes=8:=by
  have h:=int_cell_info;cases hi:Tryz.prog.info? 3 with
  |none=>rw[hi]at h;cases h
  | some i =>
    rw[hi]at h;simp at h;exact⟨i,rfl,h.1,h.2.1,h.2.2⟩
theorem make_ints16(n:Nat)(hn:n<=1000)(W:World):(Instr.makeSlice 40 (.int .i64 n) (.int .i64 n)).run Tryz.prog W= .ok (.slice (some ⟨W.heap.size,0,none⟩) n n) (W.alloc (.cells (List.replicate n (Value.int .i64 0)).toArray 3)):=by
 obtain⟨i0,hi,hz0,hz1,hz2⟩:=int_info16;have h:=run_make (P:=Tryz.prog) W 40 3 i0 (.int .i64 0) Tryz.underlying40 hi hz0 .i64 .i64 n n (by omega) (by omega) (by rw[hz2];omega) (by omega)
 rw[hz1]at h;have e:madeCells (Value.int .i64 0).cells (((n:Int)).toNat * 1)=(List.replicate n (Value.int .i64 0)).toArray:=by
  apply Array.toList_inj.mp
  rw[show(Value.int .i64 0).cells= #[Value.int .i64 0]from rfl,toList_madeCells_one]
  simp
 rw[e]at h;exact h
def RepB(w:World)(g n k:Nat)(z:Int):Prop:=w.heap[g]? =some (.cells (repC z n k).toArray 3 (0,0))
theorem RepB.own{w:World}{g n:Nat}{z:Int}{base:Nat}(h:RepB w g n n z)(hb:base<=g)(hl:n<=1000):OwnI w base (.slice (some ⟨g,0,none⟩) n n) (List.replicate n z):=by
 unfold OwnI;rw[List.length_replicate,List.map_replicate];refine⟨by simp,.inr ⟨g,n,_,rfl,hb,h,Nat.le_refl _,by unfold maxLen;omega,by simp[repC],by simp[repC]⟩⟩
theorem RepB.copied{w w':World}{g n k j B:Nat}{z:Int}{cs:List Value}{w0:World}(h:RepB w g n k z)(hj:k+j<=n)(hcs:cs=List.replicate j (.int .i64 z))(hb:Below B w0 w)(hg:B<=g)
  (hw:w'=w.setRow g ((repC z n k).toArray.toList.take k++(cs++(repC z n k).toArray.toList.drop (k+cs.length))).toArray):RepB w' g n (k+j) z/\Below B w0 w':=by
 subst hcs;rw[List.length_replicate,List.toList_toArray,repC_next hj]at hw;rw[hw];exact⟨setRow_heap w g _ _ _ _ h,below_setRow hb hg _⟩
theorem RepB.cells{w:World}{g n k:Nat}{z:Int}(h:RepB w g n k z)(j:Nat)(hj:j<=k): ∀i v,(List.replicate j (Value.int .i64 z))[i]? =some v->w.cell? ((⟨g,0,none⟩:Addr).add i)=some v:=fun i v hv=>by
 rw[List.getElem?_replicate]at hv
 split at hv
 ·injection hv with hv
  rw[addr_add,Nat.zero_add,cell_of_row w g i _ _ _ h];unfold repC;rw[List.getElem?_toArray,List.getElem?_append_left (by simp;omega),List.getElem?_replicate,if_pos (by omega),hv]
 ·cases hv
theorem reps_one(z:Int)(j:Nat): ∀v∈List.replicate j (Value.int .i64 z),v.oneCell'=true:=fun v hv=>by rw[(List.mem_replicate.mp hv).2];rfl
theorem one_src{w:World}{b:Nat}{z:Int}(h:w.cell? ⟨b,0,none⟩=some (.int .i64 z)): ∀i v,(List.replicate 1 (Value.int .i64 z))[i]? =some v->w.cell? ((⟨b,0,none⟩:Addr).add i)=some v:=fun i v hv=>by
 match i with
 |0=>rw[addr_add];exact h.trans hv
 |i+1=>simp at hv
theorem int_size16:(Tryz.prog.info? 3).map (·.size)=some 1:=by
 obtain⟨i,h1,h2,h3,h4⟩:=int_info16;rw[h1];simpa using h3
theorem slice_from(g n k:Nat)(hk:k<n)(hn:n<=1000)(W:World):(Instr.sliceAt 40 (.slice (some ⟨g,0,none⟩) n n) (some (.int .i64 (k:Int))) none none).run Tryz.prog W= .ok (.slice (some ⟨g,k,none⟩) (n - k) (n - k)) W:=by
 have hu:Tryz.prog.underlying 40=some (.slice (Tryz.prog.elem 40)):=by kernel_rfl
 rw[run_sliceAt_slice (h:=hu),run_slice_l (ht:=hu) (h0:=by omega) (h1:=by omega)]
 simp[go_sem,sliced,addr_add,show¬n=k by omega]
theorem slice_upto(g n k:Nat)(hk:k<=n)(hn:n<=1000)(W:World):(Instr.sliceAt 40 (.slice (some ⟨g,0,none⟩) n n) none (some (.int .i64 (k:Int))) none).run Tryz.prog W= .ok (.slice (some ⟨g,0,none⟩) k n) W:=by
 have hu:Tryz.prog.underlying 40=some (.slice (Tryz.prog.elem 40)):=by kernel_rfl
 rw[run_sliceAt_slice (h:=hu),run_slice_h (ht:=hu) (h0:=by omega) (h2:=by omega)]
 simp[go_sem,sliced,addr_add]
theorem repeat_any(z:Int)(b n:Nat)(w:World)(hn:n<=31)(hb:b<w.heap.size)(hc:w.cell? ⟨b,0,none⟩=some (.int .i64 z)):
  Calls Tryz.prog 154 #[.slice (some ⟨b,0,none⟩) 1 1,.int .i64 n] w fun e w'=> ∃g,e= .returned (.slice (some ⟨g,0,none⟩) n n)/\OwnI w' w.heap.size (.slice (some ⟨g,0,none⟩) n n) (List.replicate n z)/\Below w.heap.size w w':=by
 have KM:=Lib.hid (fun W=>mul_one n hn W)
 have hmk:=make_ints16 n (by omega) w
 obtain⟨w1,hw1⟩: ∃w1,w1=w.alloc (.cells (List.replicate n (Value.int .i64 0)).toArray 3):=⟨_,rfl⟩;have HB1:Hid (Below w.heap.size w w1):=Lib.hid (by rw[hw1];exact below_alloc _)
 have HR1:Hid (RepB w1 w.heap.size n 0 z):=Lib.hid (by rw[hw1];unfold RepB repC;simpa using heap_alloc_new w (.cells (List.replicate n (Value.int .i64 0)).toArray 3))
 have HC1:Hid (w1.cell? ⟨b,0,none⟩=some (.int .i64 z)):=Lib.hid ((HB1.out.cell hb).trans hc)
 have h4:IntKind.u64.wrap (n:Int)=n:=by simp[IntKind.wrap,IntKind.signed,IntKind.bits];omega
 have h6:IntKind.i64.wrap (n:Int)=n:=by simp[IntKind.wrap,IntKind.signed,IntKind.bits];omega
 rw[<-hw1]at hmk;obtain⟨g,hg⟩: ∃g,g=w.heap.size:=⟨_,rfl⟩;rw[<-hg]at hmk HR1;have HG:=Lib.hid hg;have HSF:=Lib.hid (fun(k:Nat) (hk:k<n)=>slice_from g n k hk (by omega))
 have HSU:=Lib.hid (fun(k:Nat) (hk:k<n)=>slice_upto g n k (by omega) (by omega))
 clear hw1 hc hg;go_enter Tryz.func154,Tryz.ntmps154;go_wp2_with fail;refine(KM.out _).mono ?_
 rintro e w' ⟨rfl,rfl⟩;go_wp2_with fail;rcases Nat.eq_zero_or_pos n with h0|h0
 ·have hcp: (Builtin.copy_ #[40,40] 3 #[.slice (some ⟨g,0,none⟩) n n,.slice (some ⟨b,0,none⟩) 1 1]).run Tryz.prog w1 = .ok (goInt 0) w1:=run_copy_none (P:=Tryz.prog) w1 40 40 3 3 _ _ n n 1 1 Tryz.underlying40 int_size16 (by rw [h0]; rfl)
  rw[hcp];clear hcp;have hlt:decide ((0:Int)<(n:Int))=false:=decide_eq_false (by omega)
  have hlt2:decide (0<n)=false:=decide_eq_false (by omega)
  go_wp2;go_loopw [8] (fun v wr=>v= .int .i64 0/\wr=w1) (fun v _=>0)
  case atStart=>exact⟨rfl,rfl⟩
  case round=>
   obtain⟨rfl,rfl⟩:=hrel;go_wp2;go_ret;subst h0;exact⟨g,rfl,HR1.out.own (by rw[HG.out];exact Nat.le_refl _) (by decide),HB1.out⟩
 ·obtain ⟨w2,hw2⟩: ∃ w2,w2 = w1.setRow g ((repC z n 0).toArray.toList.take 0 ++ (List.replicate 1 (Value.int .i64 z) ++ (repC z n 0).toArray.toList.drop (0 + (List.replicate 1 (Value.int .i64 z)).length))).toArray:=⟨_,rfl⟩
  have HR2:=Lib.hid (HR1.out.copied (j:=1) (by omega) rfl HB1.out (by rw[HG.out];exact Nat.le_refl _) hw2)
  have hcp:(Builtin.copy_ #[40,40] 3 #[.slice (some ⟨g,0,none⟩) n n,.slice (some ⟨b,0,none⟩) 1 1]).run Tryz.prog w1= .ok (goInt 1) w2:=by
   have h:=run_copy_row (P:=Tryz.prog) w1 40 40 3 3 g 0 n n ⟨b,0,none⟩ 1 1 (repC z n 0).toArray 3 (List.replicate 1 (Value.int .i64 z)) Tryz.underlying40 int_size16 HR1.out (by show 1=Nat.min 1 n;simp only[Nat.min_def];split<;>omega) (one_src HC1.out) (by simp[repC];omega) (reps_one z 1)
   rw[h,hw2,List.append_assoc];rfl
  rw[hcp];clear hw2 hcp;go_wp2;rw[Nat.zero_add]at HR2;clear HR1 HC1 HB1;go_loopw [8] (fun v wr=> ∃k:Nat,1<=k/\k<=n/\v= .int .i64 k/\Hid (RepB wr g n k z/\Below w.heap.size w wr)) (fun v _=>n - (intOf v).toNat)
  case atStart=>exact⟨1,Nat.le_refl _,by omega,rfl,HR2⟩
  case round=>
   clear HR2;obtain⟨k,hk1,hkn,rfl,HR⟩:=hrel
   by_cases hlt:k<n
   ·have f1:=HSF.out k hlt
    have f2:=HSU.out k hlt;obtain⟨j,hj⟩: ∃j,j=Nat.min k (n - k):=⟨_,rfl⟩;have hjk:j<=k/\k+j<=n/\1<=j:=by rw[hj];simp only[Nat.min_def];split<;>omega
    have HRD:Hid (RepB wr.drew g n k z/\Below w.heap.size w wr.drew):=Lib.hid ⟨HR.out.1,HR.out.2.drew⟩;obtain⟨w3,hw3⟩: ∃w3,w3=wr.drew.setRow g ((repC z n k).toArray.toList.take k++(List.replicate j (Value.int .i64 z)++(repC z n k).toArray.toList.drop (k+(List.replicate j (Value.int .i64 z)).length))).toArray:=⟨_,rfl⟩;have HW3:=Lib.hid hw3;have HR3:=Lib.hid (HRD.out.1.copied (j:=j) hjk.2.1 rfl HRD.out.2 (by rw[HG.out];exact Nat.le_refl _) hw3)
    have HJ:=Lib.hid hjk;have HJM:=Lib.hid hj;clear hw3 hj;go_wp2_with fail
    go_region_law (refine step_copy rfl (.tmp 41) (.tmp 44) 40 40 rfl 3 Tryz.underlying40 int_size16 g k (n - k) (n - k) ⟨g,0,none⟩ k n (by simp[Act.eval,Act.put]) (by simp[Act.eval,Act.put]) (repC z n k).toArray 3 HRD.out.1 (List.replicate j (.int .i64 z)) (by rw[List.length_replicate];exact HJM.out) (HRD.out.1.cells j HJ.out.1) (by have:=HJ.out;rw[List.length_replicate];simp[repC];omega) (reps_one z j) ?_;rw[<-HW3.out,List.length_replicate])
    all_goals
     have HJN:=Lib.hid HJ.out;simp only[Act.put,List.getElem_toArray,List.getElem_cons_succ,List.getElem_cons_zero,List.setIfInBounds_toArray,List.set_cons_succ,List.set_cons_zero];have hwr:IntKind.i64.wrap ((k:Int)+(j:Int))=(k:Int)+(j:Int):=by have:=HJ.out;rw[IntKind.wrap_i64];omega
     go_wp2;go_roundw
     case rel=>exact⟨k+j,by have:=HJN.out;omega,by have:=HJN.out;omega,by first|rfl|(have:=HJN.out;rw[hwr];rfl)|(have:=HJN.out;go_num),HR3⟩
     case measure=>simp[intOf,hwr];have:=HJN.out;omega
   ·obtain rfl: n = k:=by omega
    go_wp2;go_ret
    exact⟨g,rfl,HR.out.1.own (by rw[HG.out];exact Nat.le_refl _) (by omega),HR.out.2⟩
section
variable {α: Type} [Inhabited α]
theorem sortWorld_heap(enc:α->Value)(w:World)(blk m:Nat)(dk:Array α)(os:Array Obj)(k:Nat)(hk:k<w.heap.size):
  (sortWorld enc w blk 0 m dk os).heap[k]? =if blk=k then(w.heap[k]?).map (Go.Sort.onCells (Go.Sort.putCells enc 0 dk))else w.heap[k]?:=by
 show((w.heap.modify blk (Go.Sort.onCells (Go.Sort.putCells enc 0 dk)))++os)[k]? =_
 rw[Array.getElem?_append,if_pos (by rw[Array.size_modify];exact hk),Array.getElem?_modify]
theorem below_sortWorld(enc:α->Value)(w:World)(blk m:Nat)(dk:Array α)(os:Array Obj){B:Nat}(hB:B<=blk)(hs:B<=w.heap.size):Below B w (sortWorld enc w blk 0 m dk os):=by
 refine⟨rfl,rfl,rfl,?_,fun k hk=> ?_⟩
 ·show _ <= ((w.heap.modify blk (Go.Sort.onCells (Go.Sort.putCells enc 0 dk))) ++ os).size
  rw[Array.size_append,Array.size_modify];omega
 ·rw[sortWorld_heap enc w blk m dk os k (by omega),if_neg (by omega)]
theorem own_sortWorld{f:α->Int}{enc:α->Value}(he: ∀a,enc a= .int .i64 (f a)){w:World}{base g n c:Nat}{zs:List Int}(m:Nat)(dk:Array α)(os:Array Obj)(hn:zs.length=n)(hd:dk.size=n)(h:OwnI w base (.slice (some ⟨g,0,none⟩) n c) zs):
  OwnI (sortWorld enc w g 0 m dk os) base (.slice (some ⟨g,0,none⟩) n c) (dk.toList.map f):=by
 obtain⟨h0,h⟩:=h;rcases h with⟨h1,_⟩|⟨g',cap,cur,h1,h2,h3,h4,h5,h6,h7⟩
 ·injection h1 with h1;cases h1
 ·injection h1 with e1 e2 e3
  injection e1 with e1;injection e1 with e1;subst e1 e3;have hg:=(Array.getElem?_eq_some_iff.1 h3).1
  have hl:(dk.toList.map f).length=n:=by rw[List.length_map,Array.length_toList,hd]
  refine⟨by rw[List.length_map,Nat.mul_one],.inr ⟨g,c,Go.Sort.putCells enc 0 dk cur,by rw[hl],h2,?_,by rw[hl];omega,h5,?_,?_⟩⟩
  ·rw [sortWorld_heap enc w g m dk os g hg,if_pos rfl,h3]
   rfl
  ·unfold Go.Sort.putCells
   rw[Array.size_mapIdx];exact h6
  ·apply List.ext_getElem?
   intro k;rw[hl,Nat.mul_one,List.getElem?_take,List.getElem?_map,List.getElem?_map]
   by_cases hk:k<n
   ·rw [if_pos hk]
    unfold Go.Sort.putCells;have hc:k<cur.size:=by omega
    rw[Array.getElem?_toList,Array.getElem?_mapIdx,Array.getElem?_eq_getElem hc,Option.map_some,if_pos ⟨by omega,by omega⟩,Array.getElem?_toList,Array.getElem?_eq_getElem (by omega:k<dk.size),he,Nat.sub_zero,getElem!_pos dk k (by omega)]
    rfl
   ·rw [if_neg hk,Array.getElem?_toList,Array.getElem?_eq_none (by omega)]
    rfl
end
def cmpI(a b:Int):Int:=if a<b then -1 else if b<a then 1 else 0
theorem isNaN_int(a:Int)(w:World):Calls Tryz.prog 179 #[.int .i64 a] w fun e w'=>e= .returned (.bool false)/\w=w':=by
 go_enter Tryz.func179,Tryz.ntmps179;go_wp2;go_ret;exact⟨rfl,rfl⟩
theorem compare_any(a b:Int)(w:World):Calls Tryz.prog 173 #[.int .i64 a,.int .i64 b] w fun e w'=>e= .returned (.int .i64 (cmpI a b))/\w'=w:=by
 have C1:=Lib.hid (isNaN_int a);have C2:=Lib.hid (isNaN_int b);unfold cmpI
 by_cases h1:a<b
 ·rw [if_pos h1]
  go_enter Tryz.func173,Tryz.ntmps173;go_wp2_with fail;refine(C1.out _).mono ?_
  rintro e w' ⟨rfl,rfl⟩;go_wp2_with fail;refine(C2.out _).mono ?_
  rintro e w' ⟨rfl,rfl⟩;go_wp2;go_ret;exact⟨rfl,rfl⟩
 ·rw [if_neg h1]
  by_cases h2:b<a
  ·rw [if_pos h2]
   have h1':decide (a<b)=false:=decide_eq_false h1;clear h1;go_enter Tryz.func173,Tryz.ntmps173;go_wp2_with fail;refine(C1.out _).mono ?_
   rintro e w' ⟨rfl,rfl⟩;go_wp2_with fail;refine(C2.out _).mono ?_
   rintro e w' ⟨rfl,rfl⟩;go_wp2;go_ret;exact⟨rfl,rfl⟩
  ·rw [if_neg h2]
   have h1':decide (a<b)=false:=decide_eq_false h1;have h2':decide (b<a)=false:=decide_eq_false h2;clear h1 h2;go_enter Tryz.func173,Tryz.ntmps173;go_wp2_with fail;refine(C1.out _).mono ?_
   rintro e w' ⟨rfl,rfl⟩;go_wp2_with fail;refine(C2.out _).mono ?_
   rintro e w' ⟨rfl,rfl⟩;go_wp2;go_ret;exact⟨rfl,rfl⟩
end Go.Proofs.YtlfekmbalgkmeaaGreatDoor
namespace Go.Proofs.YtlfekmbalgkmeaaGreatDoor
open Go.RowKit
def GotInts(zs:List Int)(w:World)(e:Ending)(w':World):Prop:=
 ∃A c,e= .returned (.slice A zs.length c)/\Ints w' w'.heap.size A zs/\Below w.heap.size w w'
theorem OwnI.down{w:World}{b b':Nat}{v:Value}{zs:List Int}(h:OwnI w b v zs)(hb:b'<=b):OwnI w b' v zs:=by
 refine⟨h.1,?_⟩
 rcases h.2 with hn|⟨g,cap,cur,rfl,hg,rest⟩
 ·exact .inl hn
 ·exact .inr ⟨g,cap,cur,rfl,by omega,rest⟩
theorem OwnI.ints{w:World}{b:Nat}{A:Option Addr}{n c:Nat}{zs:List Int}(h:OwnI w b (.slice A n c) zs):Ints w w.heap.size A zs:=by
 obtain⟨A',c',e1,hI⟩:=h.slice;injection e1 with e2 e3 e4;rw[e2];exact hI
def GotOwn(zs:List Int)(w:World)(e:Ending)(w':World):Prop:=
 ∃A c,e= .returned (.slice A zs.length c)/\OwnI w' w.heap.size (.slice A zs.length c) zs/\Below w.heap.size w w'
theorem GotOwn.ints{zs:List Int}{w:World}{e:Ending}{w':World}(h:GotOwn zs w e w'):GotInts zs w e w':=by
 obtain⟨A,c,he,hO,b⟩:=h;obtain⟨A',c',e1,hI⟩:=hO.slice;injection e1 with e2 e3 e4;subst e2;exact⟨A,c,he,hI,b⟩
theorem ownI_first(w:World)(o:Obj):OwnI ((w.alloc o).alloc (.cells #[] 3)) (w.heap.size+1) (.slice (some ⟨w.heap.size+1,0,none⟩) 0 0) []:=by
 have h:=OwnI.new (w.alloc o) (w.heap.size+1) (by simp)
 rwa [show(w.alloc o).heap.size=w.heap.size+1 by simp]at h
def nums(l:List Nat):List Int:=l.map Int.ofNat
theorem mem_nums{l:List Nat}{a:Nat}:(a:Int)∈nums l↔a∈l:=by
 unfold nums;constructor
 ·intro h
  obtain⟨b,hb,e⟩:=List.mem_map.mp h;obtain rfl:b=a:=Int.ofNat_inj.mp e;exact hb
 ·intro h
  exact List.mem_map.mpr ⟨a,h,rfl⟩
theorem nums_length(l:List Nat):(nums l).length=l.length:=by unfold nums;rw[List.length_map]
theorem nums_snoc(l:List Nat)(a:Nat):nums (l++ [a])=nums l++ [(a:Int)]:=by unfold nums;rw[List.map_append];rfl
end Go.Proofs.YtlfekmbalgkmeaaGreatDoor
namespace Go.Proofs.YtlfekmbalgkmeaaGreatDoor
open Go Go.RowKit
theorem OwnI.blockC{w:World}{base gg nn cc:Nat}{zs:List Int}(h:OwnI w base (.slice (some ⟨gg,0,none⟩) nn cc) zs): ∃cur,w.heap[gg]? =some (.cells cur 3 (0,0))/\base<=gg/\nn<=cc/\cur.size=cc * 1:=by
 rcases h.2 with⟨e,_⟩|⟨g',cap,cur,e,hg,hgg,hnc,hcm,hcs,_⟩
 ·cases e
 ·injection e with e1 e2 e3
  injection e1 with e1;injection e1 with e1;subst e1 e3;rw[<-e2]at hnc;exact⟨cur,hgg,hg,hnc,hcs⟩
theorem OwnI.frozenC{w:World}{base g n c:Nat}{zs:List Int}(h:OwnI w base (.slice (some ⟨g,0,none⟩) n c) zs)(j:Nat):w.frozen? ⟨g,j,none⟩=false:=by
 obtain⟨cur,h1,_⟩:=h.blockC;exact frozen_of_row w g j _ _ h1
theorem OwnI.len_eq{w:World}{base nn cc:Nat}{A:Option Addr}{zs:List Int}(h:OwnI w base (.slice A nn cc) zs):zs.length=nn:=by
 rcases h.2 with⟨e,hn⟩|⟨g',cap,cur,e,_⟩
 ·injection e with _ e2 _
  omega
 ·injection e with _ e2 _
  omega
theorem ownI_setC{w:World}{base g n c j:Nat}{zs:List Int}(h:OwnI w base (.slice (some ⟨g,0,none⟩) n c) zs)(hj:j<zs.length)(z:Int):OwnI (w.setCell ⟨g,j,none⟩ (.int .i64 z)) base (.slice (some ⟨g,0,none⟩) n c) (zs.set j z):=by
 unfold OwnI at h⊢;rw[List.length_set,List.map_set];refine⟨by rw[List.length_set];exact h.1,?_⟩
 rcases h.2 with⟨e,_⟩|⟨g',cap,cur,e,hg,hgg,hnc,hcm,hcs,htake⟩
 ·cases e
 ·injection e with e1 e2 e3
  injection e1 with e1;injection e1 with e1;subst e1 e2 e3;refine .inr ⟨g,_,cur.setIfInBounds j (.int .i64 z),rfl,hg,heap_setCell_same w g j _ _ _ hgg,hnc,hcm,by rw[Array.size_setIfInBounds];exact hcs,?_⟩
  rw[Array.toList_setIfInBounds,<-htake,List.take_set]
theorem own_farC{w w':World}{base g:Nat}{v:Value}{zs:List Int}(h:OwnI w base v zs)(hne:v.ownBlock≠some g)(hk: ∀k,k≠g->w'.heap[k]? =w.heap[k]?):OwnI w' base v zs:=by
 refine⟨h.1,?_⟩
 rcases h.2 with hn|⟨g',cap,cur,rfl,hg,hgg,rest⟩
 ·exact .inl hn
 ·refine .inr ⟨g',cap,cur,rfl,hg,?_,rest⟩
  rw[hk g' (fun e=>hne (by rw[e];rfl))]
  exact hgg
theorem OwnI.cellC{w:World}{base g n c:Nat}{zs:List Int}(h:OwnI w base (.slice (some ⟨g,0,none⟩) n c) zs){j:Nat}(hj:j<zs.length): ∃z,w.cell? ⟨g,j,none⟩=some (.int .i64 z):=by
 obtain⟨b,off,z,e,_,_,hc⟩:=h.ints.at_ hj;injection e with e;injection e with e1 e2;subst e1 e2;exact⟨z,by simpa using hc⟩
end Go.Proofs.YtlfekmbalgkmeaaGreatDoor
