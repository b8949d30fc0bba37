import Derived.Test.YtngdbbligebcbabGreatDoorZM5
import Derived.Test.YtngdbbligebcbabGreatDoorZM6
import Derived.Lib.Hide
import Derived.Deep.RegionWith
import Derived.Test.YtngdbbligebcbabGreatDoorZDevSteal
import Derived.Test.YtngdbbligebcbabGreatDoorZDevPop
import Derived.Test.YtngdbbligebcbabGreatDoorZM17
import Derived.Test.YtngdbbligebcbabGreatDoorZM14
set_option linter.unusedVariables false
set_option linter.unusedSimpArgs false
set_option maxRecDepth 100000
set_option maxHeartbeats 16000000
namespace Go.Proofs.YtngdbbligebcbabGreatDoor
open Go.RowKit
theorem int_info1: ∃i,Tryz.prog.info? 3=some i/\i.zero=some (.int .i64 0)/\i.size=1/\i.bytes=8:=by
  have h:=int_cell_info;cases hi:Tryz.prog.info? 3 with
  |none=>rw[hi]at h;cases h
  | some i =>
    rw[hi]at h;simp at h;exact⟨i,rfl,h.1,h.2.1,h.2.2⟩
theorem wpList_append_plain{P:Program}{ops:Array Oper}{rest:List Oper}{o:Oper}{a:Act}{Q:Exit->Act->World->Prop}{w w':World}{v:Value}(hgd:o.guard=none)(s x:Operand)(t:TypeId)(vs vx:Value)
  (ho:o.op= .call {callee:=.builtin .append,args:=#[s,x],argTypes:=#[t,t]}) (hs:a.eval s=vs) (hx:a.eval x=vx) (hr:(Builtin.append_ #[t,t] o.type #[vs,vx]).run P w= .ok v w')
  (h:wpList P ops Q rest (a.put o.dst v) w'):wpList P ops Q (o::rest) a w:=by
 refine wpList_plain hgd fun K hK=> ?_
 unfold Oper.wp execOp;simp only[ho,resolve,invoke,builtin,Sem.run_bind,Sem.run_pure,Result.andThen_ok,List.map_toArray,List.map_cons,List.map_nil,hs,hx,hr];exact hK _ _ h
theorem equalIn_nil(W:World)(d:Nat)(t e:TypeId)(a:Option Addr)(l c:Nat)(h:Tryz.prog.underlying t=some (.slice e)):(Op.equalIn (d+1) t (.slice a l c) (.slice none 0 0)).run Tryz.prog W= .ok a.isNone W:=by
 cases a<;>simp[Op.equalIn,run_underlying h]
theorem equal_nil(W:World)(t e:TypeId)(a:Option Addr)(l c:Nat)(h:Tryz.prog.underlying t=some (.slice e)):(Op.equal t (.slice a l c) (.slice none 0 0)).run Tryz.prog W= .ok a.isNone W:=equalIn_nil W 9999 t e a l c h
theorem eql_nil(W:World)(t e:TypeId)(a:Option Addr)(l c:Nat)(h:Tryz.prog.underlying t=some (.slice e)):(binOp .eql t (.slice a l c) (.slice none 0 0)).run Tryz.prog W= .ok (.bool a.isNone) W:=by
 simp[binOp,equal_nil W t e a l c h]
theorem new_ints8(W:World)(ty:TypeId)(A:Option Addr)(c:Nat)(zs:List Int)(hl:zs.length<=1000)(hZ:Ints W W.heap.size A zs)(hA:A=none->zs.length=0/\c=0):
  ∃v' w',(Builtin.append_ #[22,22] ty #[.slice (some ⟨W.heap.size,0,none⟩) 0 0,.slice A zs.length c]).run Tryz.prog (W.alloc (.cells #[] 3))= .ok v' w'/\OwnI w' W.heap.size v' zs/\Below W.heap.size W w':=by
 obtain⟨i0,hi,hz0,hz1,hz2⟩:=int_info1;obtain⟨v',w',hr,ho,hb⟩:=fresh_append (P:=Tryz.prog) (W.alloc (.cells #[] 3)) 22 ty 3 i0 (.int .i64 0) 1 8 Tryz.underlying22 hi hz0 hz1 hz2 rfl (by decide) W.heap.size W.heap.size (heap_alloc_new W _) (Nat.le_refl _) (by simp) A zs.length c (zs.map (Value.int .i64)) (by simp) hA (fun ad e=>by subst e;exact(hZ.below (below_alloc _)).cells) (oneCell_ints zs) (by unfold maxLen;omega) (by omega)
 exact⟨v',w',hr,ho,(below_alloc _).trans (hb.mono (by simp))⟩
theorem clone_i(w:World)(A:Option Addr)(n c:Nat)(zs:List Int)(hn:zs.length=n)(hl:n<=1000)(hZ:Ints w w.heap.size A zs)(hA:A=none->n=0/\c=0):
  Calls Tryz.prog 34 #[.slice A n c] w (GotOwn zs w):=by
 subst hn;rcases A with _|ad
 ·obtain ⟨h0,rfl⟩:=hA rfl
  obtain rfl:zs= []:=List.eq_nil_of_length_eq_zero h0;clear hZ hA h0;have hnil:=fun W a l c=>eql_nil W 22 3 a l c Tryz.underlying22
  go_enter Tryz.func34,Tryz.ntmps34;go_wp2;go_ret;exact⟨none,0,rfl,⟨rfl,.inl ⟨rfl,rfl⟩⟩,Below.refl _ _⟩
 ·obtain ⟨v',w1,hr,hO,hB⟩:=new_ints8 w 22 (some ad) c zs hl hZ hA
  obtain⟨A',c',rfl,_⟩:=hO.slice;have HO:=Lib.hid hO;have HB:=Lib.hid hB;obtain⟨n,hn⟩: ∃n,n=zs.length:=⟨_,rfl⟩;unfold GotOwn;rw[<-hn]at hr hl HO⊢;clear hZ hA hO hB hn;have hnil:=fun W a l c=>eql_nil W 22 3 a l c Tryz.underlying22
  go_enter Tryz.func34,Tryz.ntmps34
  go_wp2_with(at_builtin;refine wpList_append_plain rfl _ _ 22 _ _ rfl rfl rfl hr ?_)
  go_ret;exact⟨A',c',rfl,HO.out,HB.out⟩
end Go.Proofs.YtngdbbligebcbabGreatDoor
namespace Go.Proofs.YtngdbbligebcbabGreatDoor
open Go Go.RowKit
section
variable {A: Option Addr} {n c: Nat} {R: List Int}
def GotRun(n:Nat)(R:List Int)(s:Int×Int×Int×Tkr)(w:World)(e:Ending)(w':World):Prop:=
 ∃A' n' c',e= .returned (.tuple #[.agg #[.slice A' n' c',.int .i64 s.2.1,.int .i64 s.2.2.1],vT s.2.2.2,.int .i64 s.1])/\OwnI w' w.heap.size (.slice A' n' c') (if s.1=0 then R else [])/\(if s.1=0 then R else []).length=n'/\n'<=1000/\Below w.heap.size w w'
theorem own_isQ{w:World}{b:Nat}{A:Option Addr}{n c:Nat}{R:List Int}(hu:OwnI w b (.slice A n c) R)(hn:R.length=n)(hl:n<=1000):IsQ w A n c R:=
 ⟨hn,hl,hu.ints,fun e=>by
  subst e;rcases hu.2 with⟨hv,_⟩|⟨g,cap,cur,hv,_⟩
  ·injection hv with _ h1 h2
   exact⟨h1,h2⟩
  ·injection hv with h1
   cases h1⟩
theorem OwnI.setFar{w:World}{base g j:Nat}{v u:Value}{zs:List Int}(h:OwnI w base v zs)(hg:g<base):OwnI (w.setCell ⟨g,j,none⟩ u) base v zs:=by
 unfold OwnI at h⊢;refine⟨h.1,?_⟩
 rcases h.2 with hn|⟨g',cap,cur,rfl,hg',hgg,rest⟩
 ·exact .inl hn
 ·refine .inr ⟨g',cap,cur,rfl,hg',?_,rest⟩
  rw[heap_setCell_other _ _ _ _ (by show g'≠g;omega)]
  exact hgg
theorem drun_any(T B:Int)(t:Tkr)(one:Bool)(f:Nat)(w:World)(hq:IsQ w A n c R)(hT:DTab w)(hf:Enough one false t f):
  Calls Tryz.prog 139 #[.agg #[.slice A n c,.int .i64 T,.int .i64 B],vT t,.bool one] w (GotRun n R (goD R one f false T B t) w):=by
 have B0:=Lib.hid (Rws.start w (rowsR A n c T B t one 0 false));obtain⟨w0,hw0⟩: ∃w0,w0=allocs w (rowsR A n c T B t one 0 false):=⟨_,rfl⟩;rw[<-hw0]at B0;obtain⟨S,hS⟩: ∃S,S=goD R one f false T B t:=⟨_,rfl⟩;rw[<-hS];have CG:Hid (Calls Tryz.prog (if t.steal=true then 153 else 154) #[.pointer (some ⟨w.heap.size,0,none⟩),.pointer (some ⟨w.heap.size+1,0,none⟩),.func (.func 151) #[] #[.pointer (some ⟨w.heap.size,0,none⟩),.pointer (some ⟨w.heap.size+1+1+1+1+1,0,none⟩),.pointer (some ⟨w.heap.size+1+1+1+1+1+1,0,none⟩),.pointer (some ⟨w.heap.size+1+1,0,none⟩),.pointer (some ⟨w.heap.size+1,0,none⟩)]] w0 (GoneGo w A n c one S)):=Lib.hid (by
  rw[hS];cases hs:t.steal
  ·exact dpop_any T B t one false 0 f w w0 hq hT hs hf B0.out
  ·exact dsteal_any T B t one false 0 f w w0 hq hT hs hf B0.out)
 obtain⟨st,a,tp,bt,gt,en⟩:=t;have HW:Hid (w0=(((((((w.alloc (.cells #[.slice A n c,.int .i64 T,.int .i64 B] 81)).alloc (.cells #[.bool st,.int .i64 a,.int .i64 tp,.int .i64 bt,.int .i64 gt,.int .i64 en] 65)).alloc (.cells #[.bool one] 4)).alloc (.cells #[.slice none 0 0,.int .i64 0,.int .i64 0] 81)).alloc (.cells #[.bool false,.int .i64 0,.int .i64 0,.int .i64 0,.int .i64 0,.int .i64 0] 65)).alloc (.cells #[.int .i64 0] 31)).alloc (.cells #[.bool false] 4))):=Lib.hid hw0;have HQ:=Lib.hid hq;have hln:=hq.ln;simp only at CG;unfold vT;clear hw0 hS hq hT hf B0;cases st
 all_goals
  simp only[if_true,Bool.false_eq_true,if_false]at CG;go_enter Tryz.func139,Tryz.ntmps139;go_wp2_with fail;rw[<-HW.out];refine CG.out.mono ?_
  rintro e w1 ⟨rfl,T1,B1,t1,z,b1,hrw,hS⟩;have HB:=Lib.hid hrw;have HS:=Lib.hid hS;clear hrw hS CG HW;obtain⟨st1,a1,tp1,bt1,gt1,en1⟩:=t1;have HL1:Hid (w.heap.size+6<w1.heap.size):=Lib.hid (HB.out.row 6 _ _ rfl).lt;have c00:=HB.out.cell 0 0 rfl rfl;have zc00:=HB.out.frozen 0 0 rfl;have c01:=HB.out.cell 0 1 rfl rfl;have zc01:=HB.out.frozen 0 1 rfl;have c02:=HB.out.cell 0 2 rfl rfl;have zc02:=HB.out.frozen 0 2 rfl;have c10:=HB.out.cell 1 0 rfl rfl;have zc10:=HB.out.frozen 1 0 rfl;have c11:=HB.out.cell 1 1 rfl rfl;have zc11:=HB.out.frozen 1 1 rfl;have c12:=HB.out.cell 1 2 rfl rfl;have zc12:=HB.out.frozen 1 2 rfl;have c13:=HB.out.cell 1 3 rfl rfl;have zc13:=HB.out.frozen 1 3 rfl;have c14:=HB.out.cell 1 4 rfl rfl;have zc14:=HB.out.frozen 1 4 rfl;have c15:=HB.out.cell 1 5 rfl rfl;have zc15:=HB.out.frozen 1 5 rfl;have c20:=HB.out.cell 2 0 rfl rfl;have zc20:=HB.out.frozen 2 0 rfl;have c30:=HB.out.cell 3 0 rfl rfl;have zc30:=HB.out.frozen 3 0 rfl;have c31:=HB.out.cell 3 1 rfl rfl;have zc31:=HB.out.frozen 3 1 rfl;have c32:=HB.out.cell 3 2 rfl rfl;have zc32:=HB.out.frozen 3 2 rfl;have c40:=HB.out.cell 4 0 rfl rfl;have zc40:=HB.out.frozen 4 0 rfl;have c41:=HB.out.cell 4 1 rfl rfl;have zc41:=HB.out.frozen 4 1 rfl;have c42:=HB.out.cell 4 2 rfl rfl;have zc42:=HB.out.frozen 4 2 rfl;have c43:=HB.out.cell 4 3 rfl rfl;have zc43:=HB.out.frozen 4 3 rfl;have c44:=HB.out.cell 4 4 rfl rfl;have zc44:=HB.out.frozen 4 4 rfl;have c45:=HB.out.cell 4 5 rfl rfl;have zc45:=HB.out.frozen 4 5 rfl;have c50:=HB.out.cell 5 0 rfl rfl;have zc50:=HB.out.frozen 5 0 rfl;have c60:=HB.out.cell 6 0 rfl rfl;have zc60:=HB.out.frozen 6 0 rfl;simp only[Nat.add_zero]at c00 c01 c02 zc00 zc01 zc02
  by_cases hz:z=0
  ·subst hz
   have HE:Hid (S=(0,T1,B1,⟨st1,a1,tp1,bt1,gt1,en1⟩)):=Lib.hid HS.out;have hq1:=HQ.out.below HB.out.bel;have CC:=Lib.hid (clone_i w1 A n c R HQ.out.hn hln hq1.ints HQ.out.hA);have HN:=Lib.hid HQ.out.hn;clear HS HQ hq1;go_wp2_with fail;refine CC.out.mono ?_
   rintro e w2 ⟨A2,c2,he,ho,hb2⟩;rw[HN.out]at he ho;subst he;have B2:=Lib.hid (HB.out.next hb2);have HO:=Lib.hid ho;have HL2:Hid (w1.heap.size<=w2.heap.size):=Lib.hid hb2.size;clear HB ho hb2 CC;clear c00 zc00 c01 zc01 c02 zc02 c10 zc10 c11 zc11 c12 zc12 c13 zc13 c14 zc14 c15 zc15 c20 zc20 c30 zc30 c31 zc31 c32 zc32 c40 zc40 c41 zc41 c42 zc42 c43 zc43 c44 zc44 c45 zc45 c50 zc50 c60 zc60;have c00:=B2.out.cell 0 0 rfl rfl;have zc00:=B2.out.frozen 0 0 rfl;have c01:=B2.out.cell 0 1 rfl rfl;have zc01:=B2.out.frozen 0 1 rfl;have c02:=B2.out.cell 0 2 rfl rfl;have zc02:=B2.out.frozen 0 2 rfl;have c10:=B2.out.cell 1 0 rfl rfl;have zc10:=B2.out.frozen 1 0 rfl;have c11:=B2.out.cell 1 1 rfl rfl;have zc11:=B2.out.frozen 1 1 rfl;have c12:=B2.out.cell 1 2 rfl rfl;have zc12:=B2.out.frozen 1 2 rfl;have c13:=B2.out.cell 1 3 rfl rfl;have zc13:=B2.out.frozen 1 3 rfl;have c14:=B2.out.cell 1 4 rfl rfl;have zc14:=B2.out.frozen 1 4 rfl;have c15:=B2.out.cell 1 5 rfl rfl;have zc15:=B2.out.frozen 1 5 rfl;have c20:=B2.out.cell 2 0 rfl rfl;have zc20:=B2.out.frozen 2 0 rfl;have c30:=B2.out.cell 3 0 rfl rfl;have zc30:=B2.out.frozen 3 0 rfl;have c31:=B2.out.cell 3 1 rfl rfl;have zc31:=B2.out.frozen 3 1 rfl;have c32:=B2.out.cell 3 2 rfl rfl;have zc32:=B2.out.frozen 3 2 rfl;have c40:=B2.out.cell 4 0 rfl rfl;have zc40:=B2.out.frozen 4 0 rfl;have c41:=B2.out.cell 4 1 rfl rfl;have zc41:=B2.out.frozen 4 1 rfl;have c42:=B2.out.cell 4 2 rfl rfl;have zc42:=B2.out.frozen 4 2 rfl;have c43:=B2.out.cell 4 3 rfl rfl;have zc43:=B2.out.frozen 4 3 rfl;have c44:=B2.out.cell 4 4 rfl rfl;have zc44:=B2.out.frozen 4 4 rfl;have c45:=B2.out.cell 4 5 rfl rfl;have zc45:=B2.out.frozen 4 5 rfl;have c50:=B2.out.cell 5 0 rfl rfl;have zc50:=B2.out.frozen 5 0 rfl;have c60:=B2.out.cell 6 0 rfl rfl;have zc60:=B2.out.frozen 6 0 rfl;simp only[Nat.add_zero]at c00 c01 c02 zc00 zc01 zc02;have B3:=Lib.hid ((((B2.out.set 0 0 rfl (.slice A2 n c2)).setQ 3 rfl (.slice A2 n c2) (.int .i64 T1) (.int .i64 B1)).setT 4 rfl (.bool st1) (.int .i64 a1) (.int .i64 tp1) (.int .i64 bt1) (.int .i64 gt1) (.int .i64 en1)).drew 1);have hl7:w.heap.size+6<w1.heap.size:=HL1.out;have HO2:Hid (OwnI (((((((((((w2.setCell ⟨w.heap.size,0,none⟩ (.slice A2 n c2)).setCell ⟨w.heap.size+3,0,none⟩ (.slice A2 n c2)).setCell ⟨w.heap.size+3,1,none⟩ (.int .i64 T1)).setCell ⟨w.heap.size+3,2,none⟩ (.int .i64 B1)).setCell ⟨w.heap.size+4,0,none⟩ (.bool st1)).setCell ⟨w.heap.size+4,1,none⟩ (.int .i64 a1)).setCell ⟨w.heap.size+4,2,none⟩ (.int .i64 tp1)).setCell ⟨w.heap.size+4,3,none⟩ (.int .i64 bt1)).setCell ⟨w.heap.size+4,4,none⟩ (.int .i64 gt1)).setCell ⟨w.heap.size+4,5,none⟩ (.int .i64 en1)).drewN 1) w1.heap.size (.slice A2 n c2) R):=Lib.hid (OwnI.below (((((((((((HO.out.setFar (by omega)).setFar (by omega)).setFar (by omega)).setFar (by omega)).setFar (by omega)).setFar (by omega)).setFar (by omega)).setFar (by omega)).setFar (by omega)).setFar (by omega))) (below_drewN (Below.refl _ _) 1))
   have HLW:Hid (w.heap.size<=w1.heap.size):=Lib.hid (by omega)
   clear hl7;go_wp2
   go_region
   all_goals go_wp2
   all_goals refine bodyPost_ret (ret_qte rfl rfl rfl rfl (B3.out.row 3 _ _ rfl) rfl (B3.out.row 4 _ _ rfl) rfl) rfl ⟨A2,n,c2,by rw[HE.out];rfl,by rw[HE.out,if_pos rfl];exact OwnI.down HO2.out HLW.out,by rw[HE.out,if_pos rfl];exact HN.out,hln,B3.out.bel⟩
  ·have HE: Hid (S = (z,0,0,newTk false)):=Lib.hid (by rw [HS.out,if_neg hz])
   have hzb:(z !=0)=true:=bne_iff_ne.mpr hz;have HZ:=Lib.hid hz;clear HS hz HQ;have B3:=Lib.hid (((HB.out.setQ 3 rfl (.slice none 0 0) (.int .i64 0) (.int .i64 0)).setT 4 rfl (.bool false) (.int .i64 0) (.int .i64 0) (.int .i64 0) (.int .i64 0) (.int .i64 0)).drew 1);clear HB;go_wp2
   go_region
   all_goals go_wp2
   all_goals refine bodyPost_ret (ret_qte rfl rfl rfl rfl (B3.out.row 3 _ _ rfl) rfl (B3.out.row 4 _ _ rfl) rfl) rfl ⟨none,0,0,by rw[HE.out];rfl,by rw[HE.out,if_neg HZ.out];exact⟨rfl,.inl ⟨rfl,rfl⟩⟩,by rw[HE.out,if_neg HZ.out];rfl,by decide,B3.out.bel⟩
theorem dstep_any(T B:Int)(t:Tkr)(w:World)(hq:IsQ w A n c R)(hT:DTab w):
  Calls Tryz.prog 120 #[.agg #[.slice A n c,.int .i64 T,.int .i64 B],vT t] w (GotRun n R (stepQ R T B t) w):=by
 have B0:=Lib.hid (Rws.start w [(81,[.slice A n c,.int .i64 T,.int .i64 B]),(65,cT t),(81,[.slice none 0 0,.int .i64 0,.int .i64 0]),(65,cT (newTk false))]);obtain⟨w0,hw0⟩: ∃w0,w0=allocs w [(81,[.slice A n c,.int .i64 T,.int .i64 B]),(65,cT t),(81,[.slice none 0 0,.int .i64 0,.int .i64 0]),(65,cT (newTk false))]:=⟨_,rfl⟩;rw[<-hw0]at B0;have CR:=Lib.hid (drun_any T B t true 2 w0 (hq.below B0.out.bel) (hT.via B0.out.bel) ⟨by decide,.inl ⟨rfl,fun _=>Nat.le_refl _⟩⟩)
 rw[go_step]at CR;obtain⟨s,hs⟩: ∃s,s=stepQ R T B t:=⟨_,rfl⟩;rw[<-hs]at CR⊢;obtain⟨st,a,tp,bt,gt,en⟩:=t;have HW:Hid (w0=((((w.alloc (.cells #[.slice A n c,.int .i64 T,.int .i64 B] 81)).alloc (.cells #[.bool st,.int .i64 a,.int .i64 tp,.int .i64 bt,.int .i64 gt,.int .i64 en] 65)).alloc (.cells #[.slice none 0 0,.int .i64 0,.int .i64 0] 81)).alloc (.cells #[.bool false,.int .i64 0,.int .i64 0,.int .i64 0,.int .i64 0,.int .i64 0] 65))):=Lib.hid hw0;obtain⟨z,T2,B2,st2,a2,tp2,bt2,gt2,en2⟩:=s;unfold GotRun vT at CR;unfold vT;clear hq hT hw0 hs;go_enter Tryz.func120,Tryz.ntmps120;go_wp2_with fail;rw[<-HW.out];refine CR.out.mono ?_
 rintro e w1 ⟨A',n',c',rfl,ho,hn2,hl2,hb1⟩;have B1:=Lib.hid (B0.out.next hb1);have HO:=Lib.hid ho;have HN:=Lib.hid hn2;have HS0:Hid (w0.heap.size=w.heap.size+4):=Lib.hid (by rw[HW.out];simp)
 clear hb1 ho hn2 B0 CR HW;have c00:=B1.out.cell 0 0 rfl rfl;have zc00:=B1.out.frozen 0 0 rfl;have c01:=B1.out.cell 0 1 rfl rfl;have zc01:=B1.out.frozen 0 1 rfl;have c02:=B1.out.cell 0 2 rfl rfl;have zc02:=B1.out.frozen 0 2 rfl;have c10:=B1.out.cell 1 0 rfl rfl;have zc10:=B1.out.frozen 1 0 rfl;have c11:=B1.out.cell 1 1 rfl rfl;have zc11:=B1.out.frozen 1 1 rfl;have c12:=B1.out.cell 1 2 rfl rfl;have zc12:=B1.out.frozen 1 2 rfl;have c13:=B1.out.cell 1 3 rfl rfl;have zc13:=B1.out.frozen 1 3 rfl;have c14:=B1.out.cell 1 4 rfl rfl;have zc14:=B1.out.frozen 1 4 rfl;have c15:=B1.out.cell 1 5 rfl rfl;have zc15:=B1.out.frozen 1 5 rfl;have c20:=B1.out.cell 2 0 rfl rfl;have zc20:=B1.out.frozen 2 0 rfl;have c21:=B1.out.cell 2 1 rfl rfl;have zc21:=B1.out.frozen 2 1 rfl;have c22:=B1.out.cell 2 2 rfl rfl;have zc22:=B1.out.frozen 2 2 rfl;have c30:=B1.out.cell 3 0 rfl rfl;have zc30:=B1.out.frozen 3 0 rfl;have c31:=B1.out.cell 3 1 rfl rfl;have zc31:=B1.out.frozen 3 1 rfl;have c32:=B1.out.cell 3 2 rfl rfl;have zc32:=B1.out.frozen 3 2 rfl;have c33:=B1.out.cell 3 3 rfl rfl;have zc33:=B1.out.frozen 3 3 rfl;have c34:=B1.out.cell 3 4 rfl rfl;have zc34:=B1.out.frozen 3 4 rfl;have c35:=B1.out.cell 3 5 rfl rfl;have zc35:=B1.out.frozen 3 5 rfl;simp only[Nat.add_zero]at c00 c01 c02 zc00 zc01 zc02;have B3:=Lib.hid ((B1.out.setQ 2 rfl (.slice A' n' c') (.int .i64 T2) (.int .i64 B2)).setT 3 rfl (.bool st2) (.int .i64 a2) (.int .i64 tp2) (.int .i64 bt2) (.int .i64 gt2) (.int .i64 en2));have HO3:Hid (OwnI (((((((((w1.setCell ⟨w.heap.size+2,0,none⟩ (.slice A' n' c')).setCell ⟨w.heap.size+2,1,none⟩ (.int .i64 T2)).setCell ⟨w.heap.size+2,2,none⟩ (.int .i64 B2)).setCell ⟨w.heap.size+3,0,none⟩ (.bool st2)).setCell ⟨w.heap.size+3,1,none⟩ (.int .i64 a2)).setCell ⟨w.heap.size+3,2,none⟩ (.int .i64 tp2)).setCell ⟨w.heap.size+3,3,none⟩ (.int .i64 bt2)).setCell ⟨w.heap.size+3,4,none⟩ (.int .i64 gt2)).setCell ⟨w.heap.size+3,5,none⟩ (.int .i64 en2)) w.heap.size (.slice A' n' c') (if z=0 then R else [])):=Lib.hid (OwnI.down (((((((((HO.out.setFar (by have:=HS0.out;omega)).setFar (by have:=HS0.out;omega)).setFar (by have:=HS0.out;omega)).setFar (by have:=HS0.out;omega)).setFar (by have:=HS0.out;omega)).setFar (by have:=HS0.out;omega)).setFar (by have:=HS0.out;omega)).setFar (by have:=HS0.out;omega)).setFar (by have:=HS0.out;omega)) (by have:=HS0.out;omega))
 go_wp2;refine bodyPost_ret (ret_qte rfl rfl rfl rfl (B3.out.row 2 _ _ rfl) rfl (B3.out.row 3 _ _ rfl) rfl) rfl ⟨A',n',c',rfl,HO3.out,HN.out,hl2,B3.out.bel⟩
end
section
variable {P: Program} {Q: Exit -> Act -> World -> Prop}
theorem fx_make{o:Oper}{a:Act}{w:World}{k:Nat}{Φ:Nat->Value->World->Prop}{K:Act->World->Prop}(hK: ∀v w',Φ k v w'->Below w.heap.size w w'->K (a.put o.dst v) w'){ρ:Operand->Value}(hρ:a.eval=ρ)(v:Value)(w':World)(hr:(execOp ρ o).run P w= .ok (.value v) w')(hv:Φ k v w')(hb:Below w.heap.size w w'):o.wp P a w K Q:=by
 subst hρ;unfold Oper.wp;rw[hr,Oper.upon_value];exact hK v w' hv hb
end
theorem Rws.later{w0 w w':World}{L:List (TypeId×List Value)}(h:Rws w0 L w){B:Nat}(hb:Below B w w')(hB:w0.heap.size+L.length<=B):Rws w0 L w':=by
 refine⟨h.bel.trans (hb.mono (by omega)),fun i t vs hi=> ?_⟩
 have hl:i<L.length:=(List.getElem?_eq_some_iff.mp hi).1
 exact(h.row i t vs hi).below hb (by omega)
def OwnQ(w':World)(b:Nat)(A:Option Addr)(n c:Nat)(R:List Int):Prop:=OwnI w' b (.slice A n c) R/\R.length=n/\n<=1000
theorem noOwnQ(w:World)(b:Nat):OwnQ w b none 0 0 []:=⟨⟨rfl,.inl ⟨rfl,rfl⟩⟩,rfl,by decide⟩
def newRd(n:Int):List Int:=if SizeOk n then List.replicate n.toNat 0 else []
def newEd(n:Int):Int:=if SizeOk n then 0 else 120
theorem make_intsD(n:Nat)(hn:n<=1000)(W:World):(Instr.makeSlice 22 (.int .i64 n) (.int .i64 n)).run Tryz.prog W= .ok (.slice (some ⟨W.heap.size,0,none⟩) n n) (W.alloc (.cells (List.replicate n (Value.int .i64 0)).toArray 3)):=by
 obtain⟨i0,hi,hz0,hz1,hz2⟩:=int_info1;have h:=run_make (P:=Tryz.prog) W 22 3 i0 (.int .i64 0) Tryz.underlying22 hi hz0 .i64 .i64 n n (by omega) (by omega) (by rw[hz2];omega) (by omega)
 rw[hz1]at h;have e:madeCells (Value.int .i64 0).cells (((n:Int)).toNat * 1)=(List.replicate n (Value.int .i64 0)).toArray:=by
  apply Array.toList_inj.mp
  rw[show(Value.int .i64 0).cells= #[Value.int .i64 0]from rfl,toList_madeCells_one]
  simp
 rw[e]at h;exact h
theorem dnew_any(n:Int)(w:World)(hT:DTab w):
  Calls Tryz.prog 57 #[.int .i64 n] w fun e w'=> ∃A' n' c',e= .returned (.tuple #[.agg #[.slice A' n' c',.int .i64 0,.int .i64 0],.int .i64 (newEd n)])/\OwnQ w' w.heap.size A' n' c' (newRd n)/\Below w.heap.size w w':=by
 have CL:=Lib.hid (dlen_any n (w.alloc (.cells #[.slice none 0 0,.int .i64 0,.int .i64 0] 81)) (hT.via (below_alloc _)));clear hT;have HB:=Lib.hid (below_alloc (w:=w) (.cells #[.slice none 0 0,.int .i64 0,.int .i64 0] 81));have HR:=Lib.hid (RowV.new w 81 [.slice none 0 0,.int .i64 0,.int .i64 0])
 by_cases h:SizeOk n
 ·rw [decide_eq_true h] at CL
  have e1:newEd n=0:=if_pos h;have e2:newRd n=List.replicate n.toNat 0:=if_pos h;rw[e1,e2];obtain⟨hb1,hb2⟩:=h.bounds;obtain⟨k,rfl⟩: ∃k:Nat,n=k:=⟨n.toNat,by omega⟩
  have hmk:=make_intsD k (by omega)
  rw[Int.toNat_natCast];clear e1 e2 h;go_enter Tryz.func57,Tryz.ntmps57
  go_wp2_with(go_at_call 95;refine CL.out.mono ?_;rintro e w' ⟨rfl,rfl⟩)
  refine bodyPost_ret (ret_qe rfl rfl rfl (RowV.alloc (RowV.new w 81 [.slice (some ⟨w.heap.size+1,0,none⟩) k k,.int .i64 0,.int .i64 0]) _) rfl) rfl ⟨some ⟨w.heap.size+1,0,none⟩,k,k,rfl,⟨⟨by simp,.inr ⟨w.heap.size+1,k,(List.replicate k (Value.int .i64 0)).toArray,by simp,by omega,?_,by simp,by unfold maxLen;simp;omega,by simp,by simp⟩⟩,by simp,by omega⟩,?_⟩
  ·have:=heap_alloc_new (w.alloc (.cells #[.slice (some ⟨w.heap.size + 1,0,none⟩) k k,.int .i64 0,.int .i64 0] 81)) (.cells (List.replicate k (Value.int .i64 0)).toArray 3)
   simpa using this
  ·exact below2 _ _ 0
 ·rw [decide_eq_false h] at CL
  have e1:newEd n=120:=if_neg h;have e2:newRd n= []:=if_neg h;rw[e1,e2];clear e1 e2 h;go_enter Tryz.func57,Tryz.ntmps57
  go_wp2_with(go_at_call 95;refine CL.out.mono ?_;rintro e w' ⟨rfl,rfl⟩)
  refine bodyPost_ret (ret_qe rfl rfl rfl HR.out rfl) rfl ⟨none,0,0,rfl,noOwnQ _ _,HB.out⟩
theorem exec_append{P:Program}{o:Oper}{ρ:Operand->Value}{w w':World}{v:Value}(s x:Operand)(t:TypeId)(vs vx:Value)(ho:o.op= .call {callee:=.builtin .append,args:=#[s,x],argTypes:=#[t,t]})(hs:ρ s=vs)(hx:ρ x=vx)
  (hr:(Builtin.append_ #[t,t] o.type #[vs,vx]).run P w= .ok v w'):(execOp ρ o).run P w= .ok (.value v) w':=by
 unfold execOp;simp only[ho,resolve,invoke,builtin,Sem.run_bind,Sem.run_pure,Result.andThen_ok,List.map_toArray,List.map_cons,List.map_nil,hs,hx,hr]
section
variable {A: Option Addr} {n c: Nat} {R: List Int}
end
theorem rws_far{w0 w:World}{L:List (TypeId×List Value)}(h:Rws w0 L w){g j:Nat}(hg:w0.heap.size+L.length<=g)(v:Value):Rws w0 L (w.setCell ⟨g,j,none⟩ v):=by
 refine⟨h.bel.setCell (by show w0.heap.size<=g;omega) v,fun i t vs hi=> ?_⟩
 have hl:i<L.length:=(List.getElem?_eq_some_iff.mp hi).1
 have:=h.row i t vs hi;unfold RowV at this⊢;rw[heap_setCell_other _ _ _ _ (by show w0.heap.size+i≠g;omega)]
 exact this
def pushT(n T B:Int):Int:=if pushE n T B=0 then T else 0
def pushB(n T B:Int):Int:=if pushE n T B=0 then B+1 else 0
def pushR(R:List Int)(T B v:Int):List Int:=if pushE R.length T B=0 then R.set (plN R.length B) v else []
def GotPush(R:List Int)(T B v:Int)(w:World)(e:Ending)(w':World):Prop:=
 ∃A' n' c',e= .returned (.tuple #[.agg #[.slice A' n' c',.int .i64 (pushT R.length T B),.int .i64 (pushB R.length T B)],.int .i64 (pushE R.length T B)])/\OwnQ w' w.heap.size A' n' c' (pushR R T B v)/\Below w.heap.size w w'
theorem push_bad{R:List Int}{T B v z:Int}{w w':World}(h:pushE R.length T B=z)(hz:z≠0)(hb:Below w.heap.size w w'):GotPush R T B v w (.returned (.tuple #[.agg #[.slice none 0 0,.int .i64 0,.int .i64 0],.int .i64 z])) w':=by
 refine⟨none,0,0,?_,?_,hb⟩
 ·unfold pushT pushB;rw[h,if_neg hz,if_neg hz]
 ·unfold pushR;rw[h,if_neg hz];exact noOwnQ _ _
def rowsP(A:Option Addr)(n c:Nat)(T B:Int):List (TypeId×List Value):=[(81,[.slice A n c,.int .i64 T,.int .i64 B]),(81,[.slice none 0 0,.int .i64 0,.int .i64 0])]
def PhiPs(wf:World)(g n c2:Nat)(T B:Int)(p:Nat)(x:Int):Nat->Value->World->Prop
 |0,v,w=>v= .pointer (some ⟨wf.heap.size,0,none⟩)
 |1,v,w=>v= .slice (some ⟨g,0,none⟩) n c2
 |2,v,w=>v= .agg #[.slice (some ⟨g,0,none⟩) n c2,.int .i64 T,.int .i64 B]
 |3,v,w=>v= .pointer (some ⟨wf.heap.size,2,none⟩)
 |4,v,w=>v= .int .i64 B
 |5,v,w=>v= .int .i64 p
 |6,v,w=>v= .int .i64 x
 |_,_,_=>True
theorem phiPs_below{wf:World}{g n c2:Nat}{T B:Int}{p:Nat}{x:Int}: ∀kq v w w',PhiPs wf g n c2 T B p x kq v w->Below w.heap.size w w'->PhiPs wf g n c2 T B p x kq v w':=by
 intro kq v w w' h hb
 match kq,h with
 |0,h=>exact h
 |1,h=>exact h
 |2,h=>exact h
 |3,h=>exact h
 |4,h=>exact h
 |5,h=>exact h
 |6,h=>exact h
 |kq+7,h=>exact trivial
def ThtPs(wf:World)(g n c2:Nat)(T B:Int)(p:Nat)(x:Int)(base:Nat)(R:List Int)(t:Nat)(f:Nat->Value)(w2:World):Prop:=
 7<=t/\t<=9/\f 35= .slice (some ⟨g,0,none⟩) n c2/\f 39= .int .i64 p/\f 40= .int .i64 x/\(8<=t->f 41= .pointer (some ⟨g,p,none⟩))/\Rws wf (rowsP (some ⟨g,0,none⟩) n c2 T B) w2/\
 (t<=8->OwnI w2 base (.slice (some ⟨g,0,none⟩) n c2) R)/\(t=9->OwnI w2 base (.slice (some ⟨g,0,none⟩) n c2) (R.set p x))
section
variable {A: Option Addr} {n c: Nat} {R: List Int}
theorem dpush_any(T B x:Int)(wf:World)(hq:IsQ wf A n c R)(hT:DTab wf):
    Calls Tryz.prog 106 #[.agg #[.slice A n c, .int .i64 T, .int .i64 B], .int .i64 x] wf (GotPush R T B x wf):=by
  have B0:=Lib.hid (Rws.start wf (rowsP A n c T B));have hln:=hq.ln;have CK:=Lib.hid (dcheck_any A n c T B _ hln (hT.via B0.out.bel));have HQ:=Lib.hid hq;have HN:=Lib.hid hq.hn;obtain⟨w0,hw0⟩: ∃w0,w0=allocs wf (rowsP A n c T B):=⟨_,rfl⟩;rw[<-hw0]at CK B0;have HW:Hid (w0=(wf.alloc (.cells #[.slice A n c, .int .i64 T, .int .i64 B] 81)).alloc (.cells #[.slice none 0 0, .int .i64 0, .int .i64 0] 81)):=Lib.hid hw0;clear hw0 hq hT
  by_cases hc: ¬ChkQ n T B
  · have HE:Hid (pushE R.length T B=120):=Lib.hid (by unfold pushE;rw[HN.out,if_pos hc])
    have e2:chkQE n T B=120:=if_neg hc;rw[e2]at CK;clear e2 hc;go_enter Tryz.func106,Tryz.ntmps106;go_wp2_with fail;rw[<-HW.out];refine CK.out.mono ?_
    rintro e w1 ⟨rfl,b1⟩;have B1:=Lib.hid (B0.out.next b1);clear b1;have c00:=B1.out.cell 0 0 rfl rfl;have zc00:=B1.out.frozen 0 0 rfl;have c01:=B1.out.cell 0 1 rfl rfl;have zc01:=B1.out.frozen 0 1 rfl;have c02:=B1.out.cell 0 2 rfl rfl;have zc02:=B1.out.frozen 0 2 rfl;have c10:=B1.out.cell 1 0 rfl rfl;have zc10:=B1.out.frozen 1 0 rfl;have c11:=B1.out.cell 1 1 rfl rfl;have zc11:=B1.out.frozen 1 1 rfl;have c12:=B1.out.cell 1 2 rfl rfl;have zc12:=B1.out.frozen 1 2 rfl;simp only[Nat.add_zero]at c00 zc00 c01 zc01 c02 zc02;have B2:=Lib.hid (B1.out.setQ 1 rfl (.slice none 0 0) (.int .i64 0) (.int .i64 0));go_wp2;exact bodyPost_ret (ret_qe rfl rfl rfl (B2.out.row 1 _ _ rfl) rfl) rfl (push_bad HE.out (by decide) B2.out.bel)
  replace hc:=Classical.not_not.mp hc;have e2:chkQE n T B=0:=if_pos hc;rw[e2]at CK;have HCQ:=Lib.hid hc;obtain⟨c1,c2,c3,c4,c5⟩:=hc;have hn64:n<=64:=by have:=c1.bounds;omega
  have hn0:0<n:=by have:=c1.bounds;omega
  clear e2 c1;go_enter Tryz.func106,Tryz.ntmps106;go_wp2_with fail;rw[<-HW.out];refine CK.out.mono ?_
  rintro e w1 ⟨rfl,b1⟩;have B1:=Lib.hid (B0.out.next b1);clear b1 B0 CK HW;have c00:=B1.out.cell 0 0 rfl rfl;have zc00:=B1.out.frozen 0 0 rfl;have c01:=B1.out.cell 0 1 rfl rfl;have zc01:=B1.out.frozen 0 1 rfl;have c02:=B1.out.cell 0 2 rfl rfl;have zc02:=B1.out.frozen 0 2 rfl;have c10:=B1.out.cell 1 0 rfl rfl;have zc10:=B1.out.frozen 1 0 rfl;have c11:=B1.out.cell 1 1 rfl rfl;have zc11:=B1.out.frozen 1 1 rfl;have c12:=B1.out.cell 1 2 rfl rfl;have zc12:=B1.out.frozen 1 2 rfl;simp only[Nat.add_zero]at c00 zc00 c01 zc01 c02 zc02
  by_cases h1:B<T
  · have HE:Hid (pushE R.length T B=121):=Lib.hid (by unfold pushE;rw[HN.out,if_neg (show¬ ¬ChkQ n T B from fun q=>q HCQ.out),if_pos (.inl h1)])
    have d1:decide (B<T)=true:=decide_eq_true h1;clear h1;have B2:=Lib.hid (B1.out.setQ 1 rfl (.slice none 0 0) (.int .i64 0) (.int .i64 0));go_wp2;exact bodyPost_ret (ret_qe rfl rfl rfl (B2.out.row 1 _ _ rfl) rfl) rfl (push_bad HE.out (by decide) B2.out.bel)
  have d1:decide (B<T)=false:=decide_eq_false h1
  by_cases h2:B=T+n
  · have HE:Hid (pushE R.length T B=121):=Lib.hid (by unfold pushE;rw[HN.out,if_neg (show¬ ¬ChkQ n T B from fun q=>q HCQ.out),if_pos (.inr h2)])
    have d2:(B==T+(n:Int))=true:=by rw[beq_iff_eq];exact h2
    clear h1 h2;have B2:=Lib.hid (B1.out.setQ 1 rfl (.slice none 0 0) (.int .i64 0) (.int .i64 0));go_wp2;exact bodyPost_ret (ret_qe rfl rfl rfl (B2.out.row 1 _ _ rfl) rfl) rfl (push_bad HE.out (by decide) B2.out.bel)
  have d2:(B==T+(n:Int))=false:=beq_eq_false_iff_ne.mpr h2;have HE:Hid (pushE R.length T B=0):=Lib.hid (by unfold pushE;rw[HN.out,if_neg (show¬ ¬ChkQ n T B from fun q=>q HCQ.out),if_neg (fun q=>q.elim h1 h2)])
  have hq1:=HQ.out.below B1.out.bel;have CC:=Lib.hid (clone_i w1 A n c R HQ.out.hn hln hq1.ints HQ.out.hA);obtain⟨p,hp⟩: ∃p,p=plN n B:=⟨_,rfl⟩;have HP:Hid (plN R.length B=p):=Lib.hid (by rw[HN.out,hp])
  have hpn:p<n:=by rw[hp];exact Nat.mod_lt _ hn0
  have HL1:Hid (wf.heap.size+1<w1.heap.size):=Lib.hid (B1.out.row 1 _ _ rfl).lt;clear hp HQ hq1 h1 h2 HCQ;go_wp2_with fail;refine CC.out.mono ?_
  rintro e w2 ⟨A2,cc,he,ho,hb2⟩;rw[HN.out]at he ho;subst he;obtain⟨g,rfl,hg1,hg2⟩:=OwnI.someC ho (by rw[HN.out];exact hn0)
  have B2:=Lib.hid (B1.out.next hb2);clear c00 zc00 c01 zc01 c02 zc02 c10 zc10 c11 zc11 c12 zc12;obtain⟨w3,hw3,B3⟩: ∃w3,w3=w2.setCell ⟨wf.heap.size,0,none⟩ (.slice (some ⟨g,0,none⟩) n cc)/\Hid (Rws wf (rowsP (some ⟨g,0,none⟩) n cc T B) w3):=⟨_,rfl,Lib.hid (B2.out.set 0 0 rfl (.slice (some ⟨g,0,none⟩) n cc))⟩;have HO3:Hid (OwnI w3 w1.heap.size (.slice (some ⟨g,0,none⟩) n cc) R):=Lib.hid (by rw[hw3];exact ho.setFar (by have:=HL1.out;omega))
  have HW3:=Lib.hid hw3;have HG:=Lib.hid hg1;have c00:=B2.out.cell 0 0 rfl rfl;have zc00:=B2.out.frozen 0 0 rfl;have c01:=B2.out.cell 0 1 rfl rfl;have zc01:=B2.out.frozen 0 1 rfl;have c02:=B2.out.cell 0 2 rfl rfl;have zc02:=B2.out.frozen 0 2 rfl;simp only[Nat.add_zero]at c00 zc00 c01 zc01 c02 zc02;clear ho hw3 hb2 hg1 hg2 CC;go_upto_region 7 with fail;rw[<-HW3.out];clear HW3 B2 B1;clear c00 zc00 c01 zc01 c02 zc02;have CP:=Lib.hid (fun w=>dplace_any (some ⟨g,0,none⟩) n cc T B B w hn0 hln (by omega))
  have HPL:Hid (plN n B=p):=Lib.hid (by rw[<-HP.out,HN.out])
  rw[HPL.out]at CP;refine wp_region_tail 7 [34,35,36,37,38,39,40,41,1000] [] (by kernel_rfl) (by kernel_rfl) (by intro d hd;simp at hd⊢;omega) (fun y=>Rws wf (rowsP (some ⟨g,0,none⟩) n cc T B) y/\OwnI y w1.heap.size (.slice (some ⟨g,0,none⟩) n cc) R) (PhiPs wf g n cc T B p x) (fun _ _=>True) (ThtPs wf g n cc T B p x w1.heap.size R)
    (fun y y' h hb=>⟨h.1.next hb,OwnI.below h.2 hb⟩) phiPs_below (⟨B3.out.next (Below.refl _ _).drew,OwnI.below HO3.out (Below.refl _ _).drew⟩) ?hstep ?hloose ?hmid ?htail ?hcon ?hend
  case hstep=>
    intro kq o hkm hkF ho a1 w hI hA hd K hK;obtain⟨ρ,hρ⟩: ∃ρ,a1.eval=ρ:=⟨_,rfl⟩;rw[hρ]at hA hd
    match kq,hkm,hkF,ho with
    | 0, _, _, ho =>
      have hoo:=Option.some.inj ho;subst hoo;exact fx_val hK hρ (.pointer (some ⟨wf.heap.size,0,none⟩)) (by have h:=hA.tmp 2 (by decide);simp[execOp,h,go_sem]) rfl
    | 1, _, _, ho =>
      have hoo:=Option.some.inj ho;subst hoo;have f0:ρ (.tmp 34)= .pointer (some ⟨wf.heap.size,0,none⟩):=hd ⟨0, .data⟩ (by simp) (by rfl) (by decide)
      have h0:=hI.1.cell 0 0 rfl rfl;simp only[Nat.add_zero]at h0;exact fx_val hK hρ (.slice (some ⟨g,0,none⟩) n cc) (by simp[execOp,f0,h0,go_sem]) rfl
    | 2, _, _, ho =>
      have hoo:=Option.some.inj ho;subst hoo;have h0:=hI.1.cell 0 0 rfl rfl;have h1:=hI.1.cell 0 1 rfl rfl;have h2:=hI.1.cell 0 2 rfl rfl;simp only[Nat.add_zero]at h0 h1 h2;have hs:=hA.tmp 2 (by decide)
      exact fx_val hK hρ (.agg #[.slice (some ⟨g,0,none⟩) n cc, .int .i64 T, .int .i64 B]) (by simp[execOp,hs,h0,h1,h2,go_sem]) rfl
    | 3, _, _, ho =>
      have hoo:=Option.some.inj ho;subst hoo;exact fx_val hK hρ (.pointer (some ⟨wf.heap.size,2,none⟩)) (by have h:=hA.tmp 2 (by decide);simp[execOp,h,go_sem]) rfl
    | 4, _, _, ho =>
      have hoo:=Option.some.inj ho;subst hoo;have f3:ρ (.tmp 37)= .pointer (some ⟨wf.heap.size,2,none⟩):=hd ⟨3, .data⟩ (by simp) (by rfl) (by decide)
      have h0:=hI.1.cell 0 2 rfl rfl;simp only[Nat.add_zero]at h0;exact fx_val hK hρ (.int .i64 B) (by simp[execOp,f3,h0,go_sem]) rfl
    | 5, _, _, ho =>
      have hoo:=Option.some.inj ho;subst hoo;have f2:ρ (.tmp 36)= .agg #[.slice (some ⟨g,0,none⟩) n cc, .int .i64 T, .int .i64 B]:=hd ⟨2, .data⟩ (by simp) (by rfl) (by decide)
      have f4:ρ (.tmp 38)= .int .i64 B:=hd ⟨4, .data⟩ (by simp) (by rfl) (by decide)
      exact fx_call hK hρ 131 _ _ #[.agg #[.slice (some ⟨g,0,none⟩) n cc, .int .i64 T, .int .i64 B], .int .i64 B] rfl (by simp only[List.map_toArray,List.map_cons,List.map_nil,hA.const,f2,f4]) (eg_of Tryz.func131 (by kernel_rfl) rfl) ((CP.out w).mono fun e w' ⟨he,hb⟩=>⟨_,he,rfl,hb⟩)
    | 6, _, _, ho =>
      have hoo:=Option.some.inj ho;subst hoo;exact fx_val hK hρ (.int .i64 x) (by have h:=hA.tmp 1 (by decide);simp[execOp,h,go_sem]) rfl
    |kq+7,h,_,_=>exact absurd h (by omega)
  case hloose=>
    intro kq o hkF ho ρ w hA hd;exact absurd hkF (by simp)
  case hmid=>
    intro vals w hI hF;exact⟨Nat.le_refl _,by decide,hF 1 (by decide) (by decide),hF 5 (by decide) (by decide),hF 6 (by decide) (by decide),fun h=>absurd h (by decide),hI.1,fun _=>hI.2,fun h=>absurd h (by decide)⟩
  case htail=>
    intro t o htm ho a1 w hA hT hL K hK;have htl:t<9:=(Array.getElem?_eq_some_iff.1 ho).1
    obtain⟨ρ,hρ⟩: ∃ρ,a1.eval=ρ:=⟨_,rfl⟩;rw[hρ]at hA
    try rw[hρ]at hL
    obtain rfl|rfl:t=7\/t=8:=by omega
    · have hoo:=Option.some.inj ho;subst hoo;obtain⟨t1,t2,g35,g39,g40,g41,hr,ho1,ho2⟩:=hT;simp only[hρ]at g35 g39 g40 g41;unfold Oper.wp;rw[show(execOp a1.eval _).run Tryz.prog w= .ok (.value (.pointer (some ⟨g,p,none⟩))) (w)from by rw[hρ];simp[execOp,g35,g39,go_sem];omega,Oper.upon_value]
      refine hK _ _ ⟨by decide,by decide,?_⟩
      simp only[Option.some.injEq,Nat.reduceEqDiff,if_false,if_true,hρ];exact⟨g35,g39,g40,fun _=>rfl,hr,fun _=>ho1 (by decide),fun h=>absurd h (by decide)⟩
    · have hoo:=Option.some.inj ho;subst hoo;obtain⟨t1,t2,g35,g39,g40,g41,hr,ho1,ho2⟩:=hT;simp only[hρ]at g35 g39 g40 g41;have ho:=ho1 (by decide)
      obtain⟨z0,e1⟩:=ho.cellC (j:=p) (by rw[HN.out];exact hpn)
      have e2:=ho.frozenC p;have h41:=g41 (by decide)
      unfold Oper.wp;rw[show(execOp a1.eval _).run Tryz.prog w= .ok .skip (w.setCell ⟨g,p,none⟩ (.int .i64 x))from by rw[hρ];simp[execOp,h41,g40,e1,e2,go_sem],Oper.upon_skip]
      refine hK undef _ ⟨by decide,by decide,?_⟩
      simp only[reduceCtorEq,if_false,hρ];exact⟨g35,g39,g40,fun _=>h41,rws_far hr (by have:=HG.out;have:=HL1.out;simp[rowsP];omega) _,fun h=>absurd h (by decide),fun _=>ownI_setC ho (by rw[HN.out];exact hpn) x⟩
  case hcon=>
    intro t f g w h hT;obtain⟨t1,t2,g35,g39,g40,g41,hr,ho1,ho2⟩:=hT;have q1:=h 1 (by omega) (by simp)
    have q5:=h 5 (by omega) (by simp)
    have q6:=h 6 (by omega) (by simp)
    simp only[List.getD_cons_zero,List.getD_cons_succ]at q1 q5 q6;refine⟨t1,t2,q1▸g35,q5▸g39,q6▸g40,fun e=> ?_,hr,ho1,ho2⟩
    have q7:=h 7 (by omega) (by simp)
    simp only[List.getD_cons_zero,List.getD_cons_succ]at q7;exact q7▸g41 e
  case hend=>
    intro vals w3 hT;obtain⟨_,_,_,_,_,_,hr,_,ho2⟩:=hT;have B4:=Lib.hid hr;have HO4:=Lib.hid (ho2 rfl);clear hr ho2;simp only[fillA,fillL,List.contains_cons,List.contains_nil,Nat.reduceBEq,Bool.or_false,Bool.false_or,Bool.or_true,Bool.true_or,cond_true,cond_false,Nat.zero_add,Nat.reduceAdd];have c00:=B4.out.cell 0 0 rfl rfl;have zc00:=B4.out.frozen 0 0 rfl;have c01:=B4.out.cell 0 1 rfl rfl;have zc01:=B4.out.frozen 0 1 rfl;have c02:=B4.out.cell 0 2 rfl rfl;have zc02:=B4.out.frozen 0 2 rfl;have c10:=B4.out.cell 1 0 rfl rfl;have zc10:=B4.out.frozen 1 0 rfl;have c11:=B4.out.cell 1 1 rfl rfl;have zc11:=B4.out.frozen 1 1 rfl;have c12:=B4.out.cell 1 2 rfl rfl;have zc12:=B4.out.frozen 1 2 rfl;simp only[Nat.add_zero]at c00 zc00 c01 zc01 c02 zc02;have B5:=Lib.hid ((B4.out.set 0 2 rfl (.int .i64 (B+1))).setQ 1 rfl (.slice (some ⟨g,0,none⟩) n cc) (.int .i64 T) (.int .i64 (B+1)));have HO5:Hid (OwnI ((((w3.setCell ⟨wf.heap.size,2,none⟩ (.int .i64 (B+1))).setCell ⟨wf.heap.size+1,0,none⟩ (.slice (some ⟨g,0,none⟩) n cc)).setCell ⟨wf.heap.size+1,1,none⟩ (.int .i64 T)).setCell ⟨wf.heap.size+1,2,none⟩ (.int .i64 (B+1))) w1.heap.size (.slice (some ⟨g,0,none⟩) n cc) (R.set p x)):=Lib.hid ((((HO4.out.setFar (by have:=HL1.out;omega)).setFar (by have:=HL1.out;omega)).setFar (by have:=HL1.out;omega)).setFar (by have:=HL1.out;omega))
    go_wp2;refine bodyPost_ret (ret_qe rfl rfl rfl (B5.out.row 1 _ _ rfl) rfl) rfl ⟨some ⟨g,0,none⟩,n,cc,?_,⟨?_,?_,hln⟩,B5.out.bel⟩
    · unfold pushT pushB;rw[HE.out];rfl
    · unfold pushR;rw[HE.out,if_pos rfl,HP.out];exact OwnI.down HO5.out (by have:=HL1.out;omega)
    · unfold pushR;rw[HE.out,if_pos rfl,List.length_set];exact HN.out
end
end Go.Proofs.YtngdbbligebcbabGreatDoor
