import Derived.Test.YtfahabphncmbfaaGreatDoorZDevSteal
import Derived.Test.YtfahabphncmbfaaGreatDoorZDevPop
import Derived.Deep.CutRange
import Derived.Deep.MidRow
set_option linter.all false
set_option maxRecDepth 100000
set_option maxHeartbeats 16000000
namespace Go.Proofs.YtfahabphncmbfaaGreatDoor
open Go.RowKit
open _root_.Array renaming getElem?_eq_some_iff→Zk
open Go.RowKit.Below renaming refl→Zl
open Go.Lib renaming hid→Zf
open List renaming getD_cons_succ→ZG,getD_cons_zero→ZI,getElem?_eq_some_iff→Zs,map_cons→ZM,map_nil→Yd,map_toArray→ZW,replicate→Zj
open Nat renaming add_zero→Zy,le_refl→Zm,le_trans→ZK,zero_add→Yg,zero_le→Zu
open Go.Proofs.Tryz renaming prog→Zg
open Go renaming bodyPost_ret→Yal,execOp→Yae,heap_alloc_new→Yak,heap_setCell_other→Yah,undef→Yag
open Go.Proofs.Tryz
theorem Zev:∃i,Zg.info? 3=some i/\i.zero=some (.int .i64 0)/\i.size=1/\i.bytes=8:=by
  have h:=Zbj;cases hi:Zg.info? 3 with
  |none=>rw[hi]at h;cases h
  | some i =>rw[hi]at h;simp at h;exact⟨i,rfl,h.1,h.2.1,h.2.2⟩
theorem Zcp{P:Program}{ops:Array Oper}{rest:List Oper}{o:Oper}{a:Act}{Q:Exit->Act->World->Prop}{w w':World}{v:Value}(hgd:o.guard=none)(s x:Operand)(t:TypeId)(vs vx:Value)
  (ho:o.op=.call {callee:=.builtin .append,args:=#[s,x],argTypes:=#[t,t]})(hs:a.eval s=vs)(hx:a.eval x=vx)(hr:(Builtin.append_ #[t,t] o.type #[vs,vx]).run P w=.ok v w')
  (h:wpList P ops Q rest (a.put o.dst v) w'):wpList P ops Q (o::rest) a w:=by
 refine wpList_plain hgd fun K hK=> ?_;unfold Oper.wp Yae;simp only[ho,resolve,invoke,builtin,Sem.run_bind,Sem.run_pure,Result.andThen_ok,ZW,ZM,Yd,hs,hx,hr];exact hK _ _ h
theorem Zkm(W:World)(d:Nat)(t e:TypeId)(a:Option Addr)(l c:Nat)(h:Zg.underlying t=some (.slice e)):(Op.equalIn (d+1) t (.slice a l c) (.slice none 0 0)).run Zg W=.ok a.isNone W:=by cases a<;>simp[Op.equalIn,run_underlying h]
theorem Zoc(W:World)(t e:TypeId)(a:Option Addr)(l c:Nat)(h:Zg.underlying t=some (.slice e)):(Op.equal t (.slice a l c) (.slice none 0 0)).run Zg W=.ok a.isNone W:=Zkm W 9999 t e a l c h
theorem Zod(W:World)(t e:TypeId)(a:Option Addr)(l c:Nat)(h:Zg.underlying t=some (.slice e)):(binOp .eql t (.slice a l c) (.slice none 0 0)).run Zg W=.ok (.bool a.isNone) W:=by simp[binOp,Zoc W t e a l c h]
theorem Zi3(W:World)(ty:TypeId)(A:Option Addr)(c:Nat)(zs:List Int)(hl:zs.length<=1000)(hZ:Ints W W.heap.size A zs)(hA:A=none->zs.length=0/\c=0):
  ∃v' w',(Builtin.append_ #[22,22] ty #[.slice (some ⟨W.heap.size,0,none⟩) 0 0,.slice A zs.length c]).run Zg (W.alloc (.cells #[] 3))=.ok v' w'/\OwnI w' W.heap.size v' zs/\Below W.heap.size W w':=by
 obtain⟨i0,hi,hz0,hz1,hz2⟩:=Zev;obtain⟨v',w',hr,ho,hb⟩:=Zbc (P:=Zg) (W.alloc (.cells #[] 3)) 22 ty 3 i0 (.int .i64 0) 1 8 underlying22 hi hz0 hz1 hz2 rfl (by decide) W.heap.size W.heap.size (Yak W _) (Zm _) (by simp) A zs.length c (zs.map (Value.int .i64)) (by simp) hA (fun ad e=>by subst e;exact(hZ.below (Zaa _)).cells) (Zcs zs) (by unfold maxLen;omega) (by omega);exact⟨v',w',hr,ho,(Zaa _).trans (hb.mono (by simp))⟩
theorem Zd1(w:World)(A:Option Addr)(n c:Nat)(zs:List Int)(hn:zs.length=n)(hl:n<=1000)(hZ:Ints w w.heap.size A zs)(hA:A=none->n=0/\c=0):
  Calls Zg 45 #[.slice A n c] w (GotOwn zs w):=by
 subst hn;rcases A with _|ad
 ·obtain ⟨h0,rfl⟩:=hA rfl
  obtain rfl:zs= []:=List.eq_nil_of_length_eq_zero h0;clear hZ hA h0;have hnil:=fun W a l c=>Zod W 22 3 a l c underlying22;go_enter func45,ntmps45;go_wp2;go_ret;exact⟨none,0,rfl,⟨rfl,.inl ⟨rfl,rfl⟩⟩,Zl _ _⟩
 ·obtain ⟨v',w1,hr,hO,hB⟩:=Zi3 w 22 (some ad) c zs hl hZ hA
  obtain⟨A',c',rfl,_⟩:=hO.slice;have HO:=Zf hO;have HB:=Zf hB;obtain⟨n,hn⟩:∃n,n=zs.length:=⟨_,rfl⟩;unfold GotOwn;rw[<-hn]at hr hl HO⊢;clear hZ hA hO hB hn;have hnil:=fun W a l c=>Zod W 22 3 a l c underlying22;go_enter func45,ntmps45;go_wp2_with(at_builtin;refine Zcp rfl _ _ 22 _ _ rfl rfl rfl hr ?_);go_ret;exact⟨A',c',rfl,HO.out,HB.out⟩
open Go
section
variable {A: Option Addr}{n c: Nat}{R: List Int}
def Zoe(n:Nat)(R:List Int)(s:Int×Int×Int×Tkr)(w:World)(e:Ending)(w':World):Prop:=
 ∃A' n' c',e=.returned (.tuple #[.agg #[.slice A' n' c',.int .i64 s.2.1,.int .i64 s.2.2.1],vT s.2.2.2,.int .i64 s.1])/\OwnI w' w.heap.size (.slice A' n' c') (if s.1=0 then R else [])/\(if s.1=0 then R else []).length=n'/\n'<=1000/\Below w.heap.size w w'
theorem Zof{w:World}{b:Nat}{A:Option Addr}{n c:Nat}{R:List Int}(hu:OwnI w b (.slice A n c) R)(hn:R.length=n)(hl:n<=1000):IsQ w A n c R:=
 ⟨hn,hl,hu.ints,fun e=>by
  subst e;rcases hu.2 with⟨hv,_⟩|⟨g,cap,cur,hv,_⟩
  ·injection hv with _ h1 h2
   exact⟨h1,h2⟩
  ·injection hv with h1
   cases h1⟩
theorem OwnI.setFar{w:World}{base g j:Nat}{v u:Value}{zs:List Int}(h:OwnI w base v zs)(hg:g<base):OwnI (w.setCell ⟨g,j,none⟩ u) base v zs:=by
 unfold OwnI at h⊢;refine⟨h.1,?_⟩;rcases h.2 with hn|⟨g',cap,cur,rfl,hg',hgg,rest⟩
 ·exact .inl hn
 ·refine .inr ⟨g',cap,cur,rfl,hg',?_,rest⟩
  rw[Yah _ _ _ _ (by show g'≠g;omega)];exact hgg
theorem Zqk(T B:Int)(t:Tkr)(one:Bool)(f:Nat)(w:World)(hq:IsQ w A n c R)(hT:DTab w)(hf:Enough one false t f):
  Calls Zg 210 #[.agg #[.slice A n c,.int .i64 T,.int .i64 B],vT t,.bool one] w (Zoe n R (goD R one f false T B t) w):=by
 have B0:=Zf (Rws.start w (ZbL A n c T B t one 0 false));obtain⟨w0,hw0⟩:∃w0,w0=ZdU w (ZbL A n c T B t one 0 false):=⟨_,rfl⟩;rw[<-hw0]at B0;obtain⟨S,hS⟩:∃S,S=goD R one f false T B t:=⟨_,rfl⟩;rw[<-hS];have CG:Hid (Calls Zg (if t.steal=true then 247 else 248) #[.pointer (some ⟨w.heap.size,0,none⟩),.pointer (some ⟨w.heap.size+1,0,none⟩),.func (.func 245) #[] #[.pointer (some ⟨w.heap.size,0,none⟩),.pointer (some ⟨w.heap.size+1+1+1+1+1,0,none⟩),.pointer (some ⟨w.heap.size+1+1+1+1+1+1,0,none⟩),.pointer (some ⟨w.heap.size+1+1,0,none⟩),.pointer (some ⟨w.heap.size+1,0,none⟩)]] w0 (Zon w A n c one S)):=Zf (by
  rw[hS];cases hs:t.steal
  ·exact Zqr T B t one false 0 f w w0 hq hT hs hf B0.out
  ·exact Zmn T B t one false 0 f w w0 hq hT hs hf B0.out)
 obtain⟨st,a,tp,bt,gt,en⟩:=t;have HW:Hid (w0=(((((((w.alloc (.cells #[.slice A n c,.int .i64 T,.int .i64 B] 102)).alloc (.cells #[.bool st,.int .i64 a,.int .i64 tp,.int .i64 bt,.int .i64 gt,.int .i64 en] 87)).alloc (.cells #[.bool one] 4)).alloc (.cells #[.slice none 0 0,.int .i64 0,.int .i64 0] 102)).alloc (.cells #[.bool false,.int .i64 0,.int .i64 0,.int .i64 0,.int .i64 0,.int .i64 0] 87)).alloc (.cells #[.int .i64 0] 31)).alloc (.cells #[.bool false] 4))):=Zf hw0;have HQ:=Zf hq;have hln:=hq.ln;simp only at CG;unfold vT;clear hw0 hS hq hT hf B0;cases st
 all_goals
  simp only[if_true,Bool.false_eq_true,if_false]at CG;go_enter func210,ntmps210;go_wp2_with fail;rw[<-HW.out];refine CG.out.mono ?_;rintro e w1 ⟨rfl,T1,B1,t1,z,b1,hrw,hS⟩;have HB:=Zf hrw;have HS:=Zf hS;clear hrw hS CG HW;obtain⟨st1,a1,tp1,bt1,gt1,en1⟩:=t1;have HL1:Hid (w.heap.size+6<w1.heap.size):=Zf (HB.out.row 6 _ _ rfl).lt;have c00:=HB.out.cell 0 0 rfl rfl;have zc00:=HB.out.frozen 0 0 rfl;have c01:=HB.out.cell 0 1 rfl rfl;have zc01:=HB.out.frozen 0 1 rfl;have c02:=HB.out.cell 0 2 rfl rfl;have zc02:=HB.out.frozen 0 2 rfl;have c10:=HB.out.cell 1 0 rfl rfl;have zc10:=HB.out.frozen 1 0 rfl;have c11:=HB.out.cell 1 1 rfl rfl;have zc11:=HB.out.frozen 1 1 rfl;have c12:=HB.out.cell 1 2 rfl rfl;have zc12:=HB.out.frozen 1 2 rfl;have c13:=HB.out.cell 1 3 rfl rfl;have zc13:=HB.out.frozen 1 3 rfl;have c14:=HB.out.cell 1 4 rfl rfl;have zc14:=HB.out.frozen 1 4 rfl;have c15:=HB.out.cell 1 5 rfl rfl;have zc15:=HB.out.frozen 1 5 rfl;have c20:=HB.out.cell 2 0 rfl rfl;have zc20:=HB.out.frozen 2 0 rfl;have c30:=HB.out.cell 3 0 rfl rfl;have zc30:=HB.out.frozen 3 0 rfl;have c31:=HB.out.cell 3 1 rfl rfl;have zc31:=HB.out.frozen 3 1 rfl;have c32:=HB.out.cell 3 2 rfl rfl;have zc32:=HB.out.frozen 3 2 rfl;have c40:=HB.out.cell 4 0 rfl rfl;have zc40:=HB.out.frozen 4 0 rfl;have c41:=HB.out.cell 4 1 rfl rfl;have zc41:=HB.out.frozen 4 1 rfl;have c42:=HB.out.cell 4 2 rfl rfl;have zc42:=HB.out.frozen 4 2 rfl;have c43:=HB.out.cell 4 3 rfl rfl;have zc43:=HB.out.frozen 4 3 rfl;have c44:=HB.out.cell 4 4 rfl rfl;have zc44:=HB.out.frozen 4 4 rfl;have c45:=HB.out.cell 4 5 rfl rfl;have zc45:=HB.out.frozen 4 5 rfl;have c50:=HB.out.cell 5 0 rfl rfl;have zc50:=HB.out.frozen 5 0 rfl;have c60:=HB.out.cell 6 0 rfl rfl;have zc60:=HB.out.frozen 6 0 rfl;simp only[Zy]at c00 c01 c02 zc00 zc01 zc02;by_cases hz:z=0
  ·subst hz
   have HE:Hid (S=(0,T1,B1,⟨st1,a1,tp1,bt1,gt1,en1⟩)):=Zf HS.out;have hq1:=HQ.out.below HB.out.bel;have CC:=Zf (Zd1 w1 A n c R HQ.out.hn hln hq1.ints HQ.out.hA);have HN:=Zf HQ.out.hn;clear HS HQ hq1;go_wp2_with fail;refine CC.out.mono ?_;rintro e w2 ⟨A2,c2,he,ho,hb2⟩;rw[HN.out]at he ho;subst he;have B2:=Zf (HB.out.next hb2);have HO:=Zf ho;have HL2:Hid (w1.heap.size<=w2.heap.size):=Zf hb2.size;clear HB ho hb2 CC;clear c00 zc00 c01 zc01 c02 zc02 c10 zc10 c11 zc11 c12 zc12 c13 zc13 c14 zc14 c15 zc15 c20 zc20 c30 zc30 c31 zc31 c32 zc32 c40 zc40 c41 zc41 c42 zc42 c43 zc43 c44 zc44 c45 zc45 c50 zc50 c60 zc60;have c00:=B2.out.cell 0 0 rfl rfl;have zc00:=B2.out.frozen 0 0 rfl;have c01:=B2.out.cell 0 1 rfl rfl;have zc01:=B2.out.frozen 0 1 rfl;have c02:=B2.out.cell 0 2 rfl rfl;have zc02:=B2.out.frozen 0 2 rfl;have c10:=B2.out.cell 1 0 rfl rfl;have zc10:=B2.out.frozen 1 0 rfl;have c11:=B2.out.cell 1 1 rfl rfl;have zc11:=B2.out.frozen 1 1 rfl;have c12:=B2.out.cell 1 2 rfl rfl;have zc12:=B2.out.frozen 1 2 rfl;have c13:=B2.out.cell 1 3 rfl rfl;have zc13:=B2.out.frozen 1 3 rfl;have c14:=B2.out.cell 1 4 rfl rfl;have zc14:=B2.out.frozen 1 4 rfl;have c15:=B2.out.cell 1 5 rfl rfl;have zc15:=B2.out.frozen 1 5 rfl;have c20:=B2.out.cell 2 0 rfl rfl;have zc20:=B2.out.frozen 2 0 rfl;have c30:=B2.out.cell 3 0 rfl rfl;have zc30:=B2.out.frozen 3 0 rfl;have c31:=B2.out.cell 3 1 rfl rfl;have zc31:=B2.out.frozen 3 1 rfl;have c32:=B2.out.cell 3 2 rfl rfl;have zc32:=B2.out.frozen 3 2 rfl;have c40:=B2.out.cell 4 0 rfl rfl;have zc40:=B2.out.frozen 4 0 rfl;have c41:=B2.out.cell 4 1 rfl rfl;have zc41:=B2.out.frozen 4 1 rfl;have c42:=B2.out.cell 4 2 rfl rfl;have zc42:=B2.out.frozen 4 2 rfl;have c43:=B2.out.cell 4 3 rfl rfl;have zc43:=B2.out.frozen 4 3 rfl;have c44:=B2.out.cell 4 4 rfl rfl;have zc44:=B2.out.frozen 4 4 rfl;have c45:=B2.out.cell 4 5 rfl rfl;have zc45:=B2.out.frozen 4 5 rfl;have c50:=B2.out.cell 5 0 rfl rfl;have zc50:=B2.out.frozen 5 0 rfl;have c60:=B2.out.cell 6 0 rfl rfl;have zc60:=B2.out.frozen 6 0 rfl;simp only[Zy]at c00 c01 c02 zc00 zc01 zc02;have B3:=Zf ((((B2.out.set 0 0 rfl (.slice A2 n c2)).setQ 3 rfl (.slice A2 n c2) (.int .i64 T1) (.int .i64 B1)).setT 4 rfl (.bool st1) (.int .i64 a1) (.int .i64 tp1) (.int .i64 bt1) (.int .i64 gt1) (.int .i64 en1)).drew 1);have hl7:w.heap.size+6<w1.heap.size:=HL1.out;have HO2:Hid (OwnI (((((((((((w2.setCell ⟨w.heap.size,0,none⟩ (.slice A2 n c2)).setCell ⟨w.heap.size+3,0,none⟩ (.slice A2 n c2)).setCell ⟨w.heap.size+3,1,none⟩ (.int .i64 T1)).setCell ⟨w.heap.size+3,2,none⟩ (.int .i64 B1)).setCell ⟨w.heap.size+4,0,none⟩ (.bool st1)).setCell ⟨w.heap.size+4,1,none⟩ (.int .i64 a1)).setCell ⟨w.heap.size+4,2,none⟩ (.int .i64 tp1)).setCell ⟨w.heap.size+4,3,none⟩ (.int .i64 bt1)).setCell ⟨w.heap.size+4,4,none⟩ (.int .i64 gt1)).setCell ⟨w.heap.size+4,5,none⟩ (.int .i64 en1)).drewN 1) w1.heap.size (.slice A2 n c2) R):=Zf (OwnI.below (((((((((((HO.out.setFar (by omega)).setFar (by omega)).setFar (by omega)).setFar (by omega)).setFar (by omega)).setFar (by omega)).setFar (by omega)).setFar (by omega)).setFar (by omega)).setFar (by omega))) (below_drewN (Zl _ _) 1));have HLW:Hid (w.heap.size<=w1.heap.size):=Zf (by omega);clear hl7;go_wp2
   go_region
   all_goals go_wp2
   all_goals refine Yal (Zks rfl rfl rfl rfl (B3.out.row 3 _ _ rfl) rfl (B3.out.row 4 _ _ rfl) rfl) rfl ⟨A2,n,c2,by rw[HE.out];rfl,by rw[HE.out,Zc rfl];exact OwnI.down HO2.out HLW.out,by rw[HE.out,Zc rfl];exact HN.out,hln,B3.out.bel⟩
  ·have HE: Hid (S = (z,0,0,Zaq false)):=Zf (by rw [HS.out,Zb hz])
   have hzb:(z !=0)=true:=bne_iff_ne.mpr hz;have HZ:=Zf hz;clear HS hz HQ;have B3:=Zf (((HB.out.setQ 3 rfl (.slice none 0 0) (.int .i64 0) (.int .i64 0)).setT 4 rfl (.bool false) (.int .i64 0) (.int .i64 0) (.int .i64 0) (.int .i64 0) (.int .i64 0)).drew 1);clear HB;go_wp2
   go_region
   all_goals go_wp2
   all_goals refine Yal (Zks rfl rfl rfl rfl (B3.out.row 3 _ _ rfl) rfl (B3.out.row 4 _ _ rfl) rfl) rfl ⟨none,0,0,by rw[HE.out];rfl,by rw[HE.out,Zb HZ.out];exact⟨rfl,.inl ⟨rfl,rfl⟩⟩,by rw[HE.out,Zb HZ.out];rfl,by decide,B3.out.bel⟩
theorem Zog(T B:Int)(t:Tkr)(w:World)(hq:IsQ w A n c R)(hT:DTab w):
  Calls Zg 165 #[.agg #[.slice A n c,.int .i64 T,.int .i64 B],vT t] w (Zoe n R (Zja R T B t) w):=by
 have B0:=Zf (Rws.start w [(102,[.slice A n c,.int .i64 T,.int .i64 B]),(87,cT t),(102,[.slice none 0 0,.int .i64 0,.int .i64 0]),(87,cT (Zaq false))]);obtain⟨w0,hw0⟩:∃w0,w0=ZdU w [(102,[.slice A n c,.int .i64 T,.int .i64 B]),(87,cT t),(102,[.slice none 0 0,.int .i64 0,.int .i64 0]),(87,cT (Zaq false))]:=⟨_,rfl⟩;rw[<-hw0]at B0;have CR:=Zf (Zqk T B t true 2 w0 (hq.below B0.out.bel) (hT.via B0.out.bel) ⟨by decide,.inl ⟨rfl,fun _=>Zm _⟩⟩);rw[ZrN]at CR;obtain⟨s,hs⟩:∃s,s=Zja R T B t:=⟨_,rfl⟩;rw[<-hs]at CR⊢;obtain⟨st,a,tp,bt,gt,en⟩:=t;have HW:Hid (w0=((((w.alloc (.cells #[.slice A n c,.int .i64 T,.int .i64 B] 102)).alloc (.cells #[.bool st,.int .i64 a,.int .i64 tp,.int .i64 bt,.int .i64 gt,.int .i64 en] 87)).alloc (.cells #[.slice none 0 0,.int .i64 0,.int .i64 0] 102)).alloc (.cells #[.bool false,.int .i64 0,.int .i64 0,.int .i64 0,.int .i64 0,.int .i64 0] 87))):=Zf hw0;obtain⟨z,T2,B2,st2,a2,tp2,bt2,gt2,en2⟩:=s;unfold Zoe vT at CR;unfold vT;clear hq hT hw0 hs;go_enter func165,ntmps165;go_wp2_with fail;rw[<-HW.out];refine CR.out.mono ?_;rintro e w1 ⟨A',n',c',rfl,ho,hn2,hl2,hb1⟩;have B1:=Zf (B0.out.next hb1);have HO:=Zf ho;have HN:=Zf hn2;have HS0:Hid (w0.heap.size=w.heap.size+4):=Zf (by rw[HW.out];simp);clear hb1 ho hn2 B0 CR HW;have c00:=B1.out.cell 0 0 rfl rfl;have zc00:=B1.out.frozen 0 0 rfl;have c01:=B1.out.cell 0 1 rfl rfl;have zc01:=B1.out.frozen 0 1 rfl;have c02:=B1.out.cell 0 2 rfl rfl;have zc02:=B1.out.frozen 0 2 rfl;have c10:=B1.out.cell 1 0 rfl rfl;have zc10:=B1.out.frozen 1 0 rfl;have c11:=B1.out.cell 1 1 rfl rfl;have zc11:=B1.out.frozen 1 1 rfl;have c12:=B1.out.cell 1 2 rfl rfl;have zc12:=B1.out.frozen 1 2 rfl;have c13:=B1.out.cell 1 3 rfl rfl;have zc13:=B1.out.frozen 1 3 rfl;have c14:=B1.out.cell 1 4 rfl rfl;have zc14:=B1.out.frozen 1 4 rfl;have c15:=B1.out.cell 1 5 rfl rfl;have zc15:=B1.out.frozen 1 5 rfl;have c20:=B1.out.cell 2 0 rfl rfl;have zc20:=B1.out.frozen 2 0 rfl;have c21:=B1.out.cell 2 1 rfl rfl;have zc21:=B1.out.frozen 2 1 rfl;have c22:=B1.out.cell 2 2 rfl rfl;have zc22:=B1.out.frozen 2 2 rfl;have c30:=B1.out.cell 3 0 rfl rfl;have zc30:=B1.out.frozen 3 0 rfl;have c31:=B1.out.cell 3 1 rfl rfl;have zc31:=B1.out.frozen 3 1 rfl;have c32:=B1.out.cell 3 2 rfl rfl;have zc32:=B1.out.frozen 3 2 rfl;have c33:=B1.out.cell 3 3 rfl rfl;have zc33:=B1.out.frozen 3 3 rfl;have c34:=B1.out.cell 3 4 rfl rfl;have zc34:=B1.out.frozen 3 4 rfl;have c35:=B1.out.cell 3 5 rfl rfl;have zc35:=B1.out.frozen 3 5 rfl;simp only[Zy]at c00 c01 c02 zc00 zc01 zc02;have B3:=Zf ((B1.out.setQ 2 rfl (.slice A' n' c') (.int .i64 T2) (.int .i64 B2)).setT 3 rfl (.bool st2) (.int .i64 a2) (.int .i64 tp2) (.int .i64 bt2) (.int .i64 gt2) (.int .i64 en2));have HO3:Hid (OwnI (((((((((w1.setCell ⟨w.heap.size+2,0,none⟩ (.slice A' n' c')).setCell ⟨w.heap.size+2,1,none⟩ (.int .i64 T2)).setCell ⟨w.heap.size+2,2,none⟩ (.int .i64 B2)).setCell ⟨w.heap.size+3,0,none⟩ (.bool st2)).setCell ⟨w.heap.size+3,1,none⟩ (.int .i64 a2)).setCell ⟨w.heap.size+3,2,none⟩ (.int .i64 tp2)).setCell ⟨w.heap.size+3,3,none⟩ (.int .i64 bt2)).setCell ⟨w.heap.size+3,4,none⟩ (.int .i64 gt2)).setCell ⟨w.heap.size+3,5,none⟩ (.int .i64 en2)) w.heap.size (.slice A' n' c') (if z=0 then R else [])):=Zf (OwnI.down (((((((((HO.out.setFar (by have:=HS0.out;omega)).setFar (by have:=HS0.out;omega)).setFar (by have:=HS0.out;omega)).setFar (by have:=HS0.out;omega)).setFar (by have:=HS0.out;omega)).setFar (by have:=HS0.out;omega)).setFar (by have:=HS0.out;omega)).setFar (by have:=HS0.out;omega)).setFar (by have:=HS0.out;omega)) (by have:=HS0.out;omega));go_wp2;refine Yal (Zks rfl rfl rfl rfl (B3.out.row 2 _ _ rfl) rfl (B3.out.row 3 _ _ rfl) rfl) rfl ⟨A',n',c',rfl,HO3.out,HN.out,hl2,B3.out.bel⟩
end
theorem Rws.later{w0 w w':World}{L:List (TypeId×List Value)}(h:Rws w0 L w){B:Nat}(hb:Below B w w')(hB:w0.heap.size+L.length<=B):Rws w0 L w':=by refine⟨h.bel.trans (hb.mono (by omega)),fun i t vs hi=> ?_⟩;have hl:i<L.length:=(Zs.mp hi).1;exact(h.row i t vs hi).below hb (by omega)
def OwnQ(w':World)(b:Nat)(A:Option Addr)(n c:Nat)(R:List Int):Prop:=OwnI w' b (.slice A n c) R/\R.length=n/\n<=1000
theorem ZqD(w:World)(b:Nat):OwnQ w b none 0 0 []:=⟨⟨rfl,.inl ⟨rfl,rfl⟩⟩,rfl,by decide⟩
def Zoh(n:Int):List Int:=if SizeOk n then Zj n.toNat 0 else []
def ZrE(n:Int):Int:=if SizeOk n then 0 else 120
theorem Zhk(n:Nat)(hn:n<=1000)(W:World):(Instr.makeSlice 22 (.int .i64 n) (.int .i64 n)).run Zg W=.ok (.slice (some ⟨W.heap.size,0,none⟩) n n) (W.alloc (.cells (Zj n (Value.int .i64 0)).toArray 3)):=by
 obtain⟨i0,hi,hz0,hz1,hz2⟩:=Zev;have h:=run_make (P:=Zg) W 22 3 i0 (.int .i64 0) underlying22 hi hz0 .i64 .i64 n n (by omega) (by omega) (by rw[hz2];omega) (by omega);rw[hz1]at h;have e:madeCells (Value.int .i64 0).cells (((n:Int)).toNat * 1)=(Zj n (Value.int .i64 0)).toArray:=by apply Array.toList_inj.mp;rw[show(Value.int .i64 0).cells= #[Value.int .i64 0]from rfl,toList_madeCells_one];simp
 rw[e]at h;exact h
theorem Zql(n:Int)(w:World)(hT:DTab w):
  Calls Zg 84 #[.int .i64 n] w fun e w'=>∃A' n' c',e=.returned (.tuple #[.agg #[.slice A' n' c',.int .i64 0,.int .i64 0],.int .i64 (ZrE n)])/\OwnQ w' w.heap.size A' n' c' (Zoh n)/\Below w.heap.size w w':=by
 have CL:=Zf (Zlp n (w.alloc (.cells #[.slice none 0 0,.int .i64 0,.int .i64 0] 102)) (hT.via (Zaa _)));clear hT;have HB:=Zf (Zaa (w:=w) (.cells #[.slice none 0 0,.int .i64 0,.int .i64 0] 102));have HR:=Zf (RowV.new w 102 [.slice none 0 0,.int .i64 0,.int .i64 0]);by_cases h:SizeOk n
 ·rw [Ze h] at CL
  have e1:ZrE n=0:=Zc h;have e2:Zoh n=Zj n.toNat 0:=Zc h;rw[e1,e2];obtain⟨hb1,hb2⟩:=h.bounds;obtain⟨k,rfl⟩:∃k:Nat,n=k:=⟨n.toNat,by omega⟩;have hmk:=Zhk k (by omega);rw[Int.toNat_natCast];clear e1 e2 h;go_enter func84,ntmps84;go_wp2_with(go_at_call 144;refine CL.out.mono ?_;rintro e w' ⟨rfl,rfl⟩);refine Yal (Zhl rfl rfl rfl (RowV.alloc (RowV.new w 102 [.slice (some ⟨w.heap.size+1,0,none⟩) k k,.int .i64 0,.int .i64 0]) _) rfl) rfl ⟨some ⟨w.heap.size+1,0,none⟩,k,k,rfl,⟨⟨by simp,.inr ⟨w.heap.size+1,k,(Zj k (Value.int .i64 0)).toArray,by simp,by omega,?_,by simp,by unfold maxLen;simp;omega,by simp,by simp⟩⟩,by simp,by omega⟩,?_⟩
  ·have:=Yak (w.alloc (.cells #[.slice (some ⟨w.heap.size + 1,0,none⟩) k k,.int .i64 0,.int .i64 0] 102)) (.cells (Zj k (Value.int .i64 0)).toArray 3)
   simpa using this
  ·exact Zsv _ _ 0
 ·rw [Zd h] at CL
  have e1:ZrE n=120:=Zb h;have e2:Zoh n= []:=Zb h;rw[e1,e2];clear e1 e2 h;go_enter func84,ntmps84;go_wp2_with(go_at_call 144;refine CL.out.mono ?_;rintro e w' ⟨rfl,rfl⟩);refine Yal (Zhl rfl rfl rfl HR.out rfl) rfl ⟨none,0,0,rfl,ZqD _ _,HB.out⟩
theorem Zkn{P:Program}{o:Oper}{ρ:Operand->Value}{w w':World}{v:Value}(s x:Operand)(t:TypeId)(vs vx:Value)(ho:o.op=.call {callee:=.builtin .append,args:=#[s,x],argTypes:=#[t,t]})(hs:ρ s=vs)(hx:ρ x=vx)
  (hr:(Builtin.append_ #[t,t] o.type #[vs,vx]).run P w=.ok v w'):(Yae ρ o).run P w=.ok (.value v) w':=by
 unfold Yae;simp only[ho,resolve,invoke,builtin,Sem.run_bind,Sem.run_pure,Result.andThen_ok,ZW,ZM,Yd,hs,hx,hr]
section
variable {A: Option Addr}{n c: Nat}{R: List Int}
end
theorem ZrF{w0 w:World}{L:List (TypeId×List Value)}(h:Rws w0 L w){g j:Nat}(hg:w0.heap.size+L.length<=g)(v:Value):Rws w0 L (w.setCell ⟨g,j,none⟩ v):=by refine⟨h.bel.setCell (by show w0.heap.size<=g;omega) v,fun i t vs hi=> ?_⟩;have hl:i<L.length:=(Zs.mp hi).1;have:=h.row i t vs hi;unfold RowV at this⊢;rw[Yah _ _ _ _ (by show w0.heap.size+i≠g;omega)];exact this
def Zqm(n T B:Int):Int:=if Zcr n T B=0 then T else 0
def Zqn(n T B:Int):Int:=if Zcr n T B=0 then B+1 else 0
def Zml(R:List Int)(T B v:Int):List Int:=if Zcr R.length T B=0 then R.set (plN R.length B) v else []
def Zko(R:List Int)(T B v:Int)(w:World)(e:Ending)(w':World):Prop:=
 ∃A' n' c',e=.returned (.tuple #[.agg #[.slice A' n' c',.int .i64 (Zqm R.length T B),.int .i64 (Zqn R.length T B)],.int .i64 (Zcr R.length T B)])/\OwnQ w' w.heap.size A' n' c' (Zml R T B v)/\Below w.heap.size w w'
theorem ZhX{R:List Int}{T B v z:Int}{w w':World}(h:Zcr R.length T B=z)(hz:z≠0)(hb:Below w.heap.size w w'):Zko R T B v w (.returned (.tuple #[.agg #[.slice none 0 0,.int .i64 0,.int .i64 0],.int .i64 z])) w':=by
 refine⟨none,0,0,?_,?_,hb⟩
 ·unfold Zqm Zqn;rw[h,Zb hz,Zb hz]
 ·unfold Zml;rw[h,Zb hz];exact ZqD _ _
def Zmm(A:Option Addr)(n c:Nat)(T B:Int):List (TypeId×List Value):=[(102,[.slice A n c,.int .i64 T,.int .i64 B]),(102,[.slice none 0 0,.int .i64 0,.int .i64 0])]
def ZrG(wf:World)(g n c2:Nat)(T B:Int)(p:Nat)(x:Int):Nat->Value->World->Prop
 |0,v,w=>v=.pointer (some ⟨wf.heap.size,0,none⟩)
 |1,v,w=>v=.slice (some ⟨g,0,none⟩) n c2
 |2,v,w=>v=.agg #[.slice (some ⟨g,0,none⟩) n c2,.int .i64 T,.int .i64 B]
 |3,v,w=>v=.pointer (some ⟨wf.heap.size,2,none⟩)
 |4,v,w=>v=.int .i64 B
 |5,v,w=>v=.int .i64 p
 |6,v,w=>v=.int .i64 x
 |_,_,_=>True
theorem Zkp{wf:World}{g n c2:Nat}{T B:Int}{p:Nat}{x:Int}:∀kq v w w',ZrG wf g n c2 T B p x kq v w->Below w.heap.size w w'->ZrG wf g n c2 T B p x kq v w':=by
 intro kq v w w' h hb
 match kq,h with
 |0,h=>exact h
 |1,h=>exact h
 |2,h=>exact h
 |3,h=>exact h
 |4,h=>exact h
 |5,h=>exact h
 |6,h=>exact h
 |kq+7,h=>exact trivial
def ZsQ(wf:World)(g n c2:Nat)(T B:Int)(p:Nat)(x:Int)(base:Nat)(R:List Int)(t:Nat)(f:Nat->Value)(w2:World):Prop:=
 7<=t/\t<=9/\f 35=.slice (some ⟨g,0,none⟩) n c2/\f 39=.int .i64 p/\f 40=.int .i64 x/\(8<=t->f 41=.pointer (some ⟨g,p,none⟩))/\Rws wf (Zmm (some ⟨g,0,none⟩) n c2 T B) w2/\
 (t<=8->OwnI w2 base (.slice (some ⟨g,0,none⟩) n c2) R)/\(t=9->OwnI w2 base (.slice (some ⟨g,0,none⟩) n c2) (R.set p x))
section
variable {A: Option Addr}{n c: Nat}{R: List Int}
theorem Zoi(T B x:Int)(wf:World)(hq:IsQ wf A n c R)(hT:DTab wf):
    Calls Zg 151 #[.agg #[.slice A n c,.int .i64 T,.int .i64 B],.int .i64 x] wf (Zko R T B x wf):=by
  have B0:=Zf (Rws.start wf (Zmm A n c T B));have hln:=hq.ln;have CK:=Zf (Zhm A n c T B _ hln (hT.via B0.out.bel));have HQ:=Zf hq;have HN:=Zf hq.hn;obtain⟨w0,hw0⟩:∃w0,w0=ZdU wf (Zmm A n c T B):=⟨_,rfl⟩;rw[<-hw0]at CK B0;have HW:Hid (w0=(wf.alloc (.cells #[.slice A n c,.int .i64 T,.int .i64 B] 102)).alloc (.cells #[.slice none 0 0,.int .i64 0,.int .i64 0] 102)):=Zf hw0;clear hw0 hq hT;by_cases hc:¬ChkQ n T B
  · have HE:Hid (Zcr R.length T B=120):=Zf (by unfold Zcr;rw[HN.out,Zc hc]);have e2:Zh0 n T B=120:=Zb hc;rw[e2]at CK;clear e2 hc;go_enter func151,ntmps151;go_wp2_with fail;rw[<-HW.out];refine CK.out.mono ?_;rintro e w1 ⟨rfl,b1⟩;have B1:=Zf (B0.out.next b1);clear b1;have c00:=B1.out.cell 0 0 rfl rfl;have zc00:=B1.out.frozen 0 0 rfl;have c01:=B1.out.cell 0 1 rfl rfl;have zc01:=B1.out.frozen 0 1 rfl;have c02:=B1.out.cell 0 2 rfl rfl;have zc02:=B1.out.frozen 0 2 rfl;have c10:=B1.out.cell 1 0 rfl rfl;have zc10:=B1.out.frozen 1 0 rfl;have c11:=B1.out.cell 1 1 rfl rfl;have zc11:=B1.out.frozen 1 1 rfl;have c12:=B1.out.cell 1 2 rfl rfl;have zc12:=B1.out.frozen 1 2 rfl;simp only[Zy]at c00 zc00 c01 zc01 c02 zc02;have B2:=Zf (B1.out.setQ 1 rfl (.slice none 0 0) (.int .i64 0) (.int .i64 0));go_wp2;exact Yal (Zhl rfl rfl rfl (B2.out.row 1 _ _ rfl) rfl) rfl (ZhX HE.out (by decide) B2.out.bel)
  replace hc:=Classical.not_not.mp hc;have e2:Zh0 n T B=0:=Zc hc;rw[e2]at CK;have HCQ:=Zf hc;obtain⟨c1,c2,c3,c4,c5⟩:=hc;have hn64:n<=64:=by have:=c1.bounds;omega
  have hn0:0<n:=by have:=c1.bounds;omega
  clear e2 c1;go_enter func151,ntmps151;go_wp2_with fail;rw[<-HW.out];refine CK.out.mono ?_;rintro e w1 ⟨rfl,b1⟩;have B1:=Zf (B0.out.next b1);clear b1 B0 CK HW;have c00:=B1.out.cell 0 0 rfl rfl;have zc00:=B1.out.frozen 0 0 rfl;have c01:=B1.out.cell 0 1 rfl rfl;have zc01:=B1.out.frozen 0 1 rfl;have c02:=B1.out.cell 0 2 rfl rfl;have zc02:=B1.out.frozen 0 2 rfl;have c10:=B1.out.cell 1 0 rfl rfl;have zc10:=B1.out.frozen 1 0 rfl;have c11:=B1.out.cell 1 1 rfl rfl;have zc11:=B1.out.frozen 1 1 rfl;have c12:=B1.out.cell 1 2 rfl rfl;have zc12:=B1.out.frozen 1 2 rfl;simp only[Zy]at c00 zc00 c01 zc01 c02 zc02;by_cases h1:B<T
  · have HE:Hid (Zcr R.length T B=121):=Zf (by unfold Zcr;rw[HN.out,Zb (show¬ ¬ChkQ n T B from fun q=>q HCQ.out),Zc (.inl h1)]);have d1:decide (B<T)=true:=Ze h1;clear h1;have B2:=Zf (B1.out.setQ 1 rfl (.slice none 0 0) (.int .i64 0) (.int .i64 0));go_wp2;exact Yal (Zhl rfl rfl rfl (B2.out.row 1 _ _ rfl) rfl) rfl (ZhX HE.out (by decide) B2.out.bel)
  have d1:decide (B<T)=false:=Zd h1;by_cases h2:B=T+n
  · have HE:Hid (Zcr R.length T B=121):=Zf (by unfold Zcr;rw[HN.out,Zb (show¬ ¬ChkQ n T B from fun q=>q HCQ.out),Zc (.inr h2)]);have d2:(B==T+(n:Int))=true:=by rw[beq_iff_eq];exact h2
    clear h1 h2;have B2:=Zf (B1.out.setQ 1 rfl (.slice none 0 0) (.int .i64 0) (.int .i64 0));go_wp2;exact Yal (Zhl rfl rfl rfl (B2.out.row 1 _ _ rfl) rfl) rfl (ZhX HE.out (by decide) B2.out.bel)
  have d2:(B==T+(n:Int))=false:=beq_eq_false_iff_ne.mpr h2;have HE:Hid (Zcr R.length T B=0):=Zf (by unfold Zcr;rw[HN.out,Zb (show¬ ¬ChkQ n T B from fun q=>q HCQ.out),Zb (fun q=>q.elim h1 h2)]);have hq1:=HQ.out.below B1.out.bel;have CC:=Zf (Zd1 w1 A n c R HQ.out.hn hln hq1.ints HQ.out.hA);obtain⟨p,hp⟩:∃p,p=plN n B:=⟨_,rfl⟩;have HP:Hid (plN R.length B=p):=Zf (by rw[HN.out,hp]);have hpn:p<n:=by rw[hp];exact Nat.mod_lt _ hn0
  have HL1:Hid (wf.heap.size+1<w1.heap.size):=Zf (B1.out.row 1 _ _ rfl).lt;clear hp HQ hq1 h1 h2 HCQ;go_wp2_with fail;refine CC.out.mono ?_;rintro e w2 ⟨A2,cc,he,ho,hb2⟩;rw[HN.out]at he ho;subst he;obtain⟨g,rfl,hg1,hg2⟩:=OwnI.someC ho (by rw[HN.out];exact hn0);have B2:=Zf (B1.out.next hb2);clear c00 zc00 c01 zc01 c02 zc02 c10 zc10 c11 zc11 c12 zc12;obtain⟨w3,hw3,B3⟩:∃w3,w3=w2.setCell ⟨wf.heap.size,0,none⟩ (.slice (some ⟨g,0,none⟩) n cc)/\Hid (Rws wf (Zmm (some ⟨g,0,none⟩) n cc T B) w3):=⟨_,rfl,Zf (B2.out.set 0 0 rfl (.slice (some ⟨g,0,none⟩) n cc))⟩;have HO3:Hid (OwnI w3 w1.heap.size (.slice (some ⟨g,0,none⟩) n cc) R):=Zf (by rw[hw3];exact ho.setFar (by have:=HL1.out;omega));have HW3:=Zf hw3;have HG:=Zf hg1;have c00:=B2.out.cell 0 0 rfl rfl;have zc00:=B2.out.frozen 0 0 rfl;have c01:=B2.out.cell 0 1 rfl rfl;have zc01:=B2.out.frozen 0 1 rfl;have c02:=B2.out.cell 0 2 rfl rfl;have zc02:=B2.out.frozen 0 2 rfl;simp only[Zy]at c00 zc00 c01 zc01 c02 zc02;clear ho hw3 hb2 hg1 hg2 CC;go_upto_region 7 with fail;rw[<-HW3.out];clear HW3 B2 B1;clear c00 zc00 c01 zc01 c02 zc02;have CP:=Zf (fun w=>ZdL (some ⟨g,0,none⟩) n cc T B B w hn0 hln (by omega));have HPL:Hid (plN n B=p):=Zf (by rw[<-HP.out,HN.out]);rw[HPL.out]at CP;refine Zas 7 [34,35,36,37,38,39,40,41,1000] [] (by kernel_rfl) (by kernel_rfl) (by intro d hd;simp at hd⊢;omega) (fun y=>Rws wf (Zmm (some ⟨g,0,none⟩) n cc T B) y/\OwnI y w1.heap.size (.slice (some ⟨g,0,none⟩) n cc) R) (ZrG wf g n cc T B p x) (fun _ _=>True) (ZsQ wf g n cc T B p x w1.heap.size R)
    (fun y y' h hb=>⟨h.1.next hb,OwnI.below h.2 hb⟩) Zkp (⟨B3.out.next (Zl _ _).drew,OwnI.below HO3.out (Zl _ _).drew⟩) ?hstep ?hloose ?hmid ?htail ?hcon ?hend
  case hstep=>
    intro kq o hkm hkF ho a1 w hI hA hd K hK;obtain⟨ρ,hρ⟩:∃ρ,a1.eval=ρ:=⟨_,rfl⟩;rw[hρ]at hA hd
    match kq,hkm,hkF,ho with
    | 0, _, _, ho =>cases ho;exact Zab hK hρ (.pointer (some ⟨wf.heap.size,0,none⟩)) (by have h:=hA.tmp 2 (by decide);simp[Yae,h,go_sem]) rfl
    | 1, _, _, ho =>
      cases ho;have f0:ρ (.tmp 34)=.pointer (some ⟨wf.heap.size,0,none⟩):=hd ⟨0,.data⟩ (by simp) (by rfl) (by decide)
      have h0:=hI.1.cell 0 0 rfl rfl;simp only[Zy]at h0;exact Zab hK hρ (.slice (some ⟨g,0,none⟩) n cc) (by simp[Yae,f0,h0,go_sem]) rfl
    | 2, _, _, ho =>
      cases ho;have h0:=hI.1.cell 0 0 rfl rfl;have h1:=hI.1.cell 0 1 rfl rfl;have h2:=hI.1.cell 0 2 rfl rfl;simp only[Zy]at h0 h1 h2;have hs:=hA.tmp 2 (by decide)
      exact Zab hK hρ (.agg #[.slice (some ⟨g,0,none⟩) n cc,.int .i64 T,.int .i64 B]) (by simp[Yae,hs,h0,h1,h2,go_sem]) rfl
    | 3, _, _, ho =>cases ho;exact Zab hK hρ (.pointer (some ⟨wf.heap.size,2,none⟩)) (by have h:=hA.tmp 2 (by decide);simp[Yae,h,go_sem]) rfl
    | 4, _, _, ho =>
      cases ho;have f3:ρ (.tmp 37)=.pointer (some ⟨wf.heap.size,2,none⟩):=hd ⟨3,.data⟩ (by simp) (by rfl) (by decide)
      have h0:=hI.1.cell 0 2 rfl rfl;simp only[Zy]at h0;exact Zab hK hρ (.int .i64 B) (by simp[Yae,f3,h0,go_sem]) rfl
    | 5, _, _, ho =>
      cases ho;have f2:ρ (.tmp 36)=.agg #[.slice (some ⟨g,0,none⟩) n cc,.int .i64 T,.int .i64 B]:=hd ⟨2,.data⟩ (by simp) (by rfl) (by decide);have f4:ρ (.tmp 38)=.int .i64 B:=hd ⟨4,.data⟩ (by simp) (by rfl) (by decide)
      exact ZaU hK hρ 203 _ _ #[.agg #[.slice (some ⟨g,0,none⟩) n cc,.int .i64 T,.int .i64 B],.int .i64 B] rfl (by simp only[ZW,ZM,Yd,hA.const,f2,f4]) (Za1 func203 (by kernel_rfl) rfl) ((CP.out w).mono fun e w' ⟨he,hb⟩=>⟨_,he,rfl,hb⟩)
    | 6, _, _, ho =>cases ho;exact Zab hK hρ (.int .i64 x) (by have h:=hA.tmp 1 (by decide);simp[Yae,h,go_sem]) rfl
    |kq+7,h,_,_=>exact absurd h (by omega)
  case hloose=>intro kq o hkF ho ρ w hA hd;exact absurd hkF (by simp)
  case hmid=>intro vals w hI hF;exact⟨Zm _,by decide,hF 1 (by decide) (by decide),hF 5 (by decide) (by decide),hF 6 (by decide) (by decide),fun h=>Za h,hI.1,fun _=>hI.2,fun h=>Za h⟩
  case htail=>
    intro t o htm ho a1 w hA hT hL K hK;have htl:t<9:=(Zk.1 ho).1;obtain⟨ρ,hρ⟩:∃ρ,a1.eval=ρ:=⟨_,rfl⟩;rw[hρ]at hA;(try rw[hρ]at hL);obtain rfl|rfl:t=7\/t=8:=by omega
    · obtain rfl:=Option.some.inj ho;obtain⟨t1,t2,g35,g39,g40,g41,hr,ho1,ho2⟩:=hT;simp only[hρ]at g35 g39 g40 g41;unfold Oper.wp;rw[show(Yae a1.eval _).run Zg w=.ok (.value (.pointer (some ⟨g,p,none⟩))) (w)from by rw[hρ];simp[Yae,g35,g39,go_sem];omega,Oper.upon_value];refine hK _ _ ⟨by decide,by decide,?_⟩;simp only[Option.some.injEq,Nat.reduceEqDiff,if_false,if_true,hρ];exact⟨g35,g39,g40,fun _=>rfl,hr,fun _=>ho1 (by decide),fun h=>Za h⟩
    · obtain rfl:=Option.some.inj ho;obtain⟨t1,t2,g35,g39,g40,g41,hr,ho1,ho2⟩:=hT;simp only[hρ]at g35 g39 g40 g41;have ho:=ho1 (by decide);obtain⟨z0,e1⟩:=ho.cellC (j:=p) (by rw[HN.out];exact hpn);have e2:=ho.frozenC p;have h41:=g41 (by decide);unfold Oper.wp;rw[show(Yae a1.eval _).run Zg w=.ok .skip (w.setCell ⟨g,p,none⟩ (.int .i64 x))from by rw[hρ];simp[Yae,h41,g40,e1,e2,go_sem],Oper.upon_skip];refine hK Yag _ ⟨by decide,by decide,?_⟩;simp only[reduceCtorEq,if_false,hρ];exact⟨g35,g39,g40,fun _=>h41,ZrF hr (by have:=HG.out;have:=HL1.out;simp[Zmm];omega) _,fun h=>Za h,fun _=>Zc7 ho (by rw[HN.out];exact hpn) x⟩
  case hcon=>intro t f g w h hT;obtain⟨t1,t2,g35,g39,g40,g41,hr,ho1,ho2⟩:=hT;have q1:=h 1 (by omega) (by simp);have q5:=h 5 (by omega) (by simp);have q6:=h 6 (by omega) (by simp);simp only[ZI,ZG]at q1 q5 q6;refine⟨t1,t2,q1▸g35,q5▸g39,q6▸g40,fun e=> ?_,hr,ho1,ho2⟩;have q7:=h 7 (by omega) (by simp);simp only[ZI,ZG]at q7;exact q7▸g41 e
  case hend=>
    intro vals w3 hT;obtain⟨_,_,_,_,_,_,hr,_,ho2⟩:=hT;have B4:=Zf hr;have HO4:=Zf (ho2 rfl);clear hr ho2;simp only[ZaW,Zba,List.contains_cons,List.contains_nil,Nat.reduceBEq,Bool.or_false,Bool.false_or,Bool.or_true,Bool.true_or,cond_true,cond_false,Yg,Nat.reduceAdd];have c00:=B4.out.cell 0 0 rfl rfl;have zc00:=B4.out.frozen 0 0 rfl;have c01:=B4.out.cell 0 1 rfl rfl;have zc01:=B4.out.frozen 0 1 rfl;have c02:=B4.out.cell 0 2 rfl rfl;have zc02:=B4.out.frozen 0 2 rfl;have c10:=B4.out.cell 1 0 rfl rfl;have zc10:=B4.out.frozen 1 0 rfl;have c11:=B4.out.cell 1 1 rfl rfl;have zc11:=B4.out.frozen 1 1 rfl;have c12:=B4.out.cell 1 2 rfl rfl;have zc12:=B4.out.frozen 1 2 rfl;simp only[Zy]at c00 zc00 c01 zc01 c02 zc02;have B5:=Zf ((B4.out.set 0 2 rfl (.int .i64 (B+1))).setQ 1 rfl (.slice (some ⟨g,0,none⟩) n cc) (.int .i64 T) (.int .i64 (B+1)));have HO5:Hid (OwnI ((((w3.setCell ⟨wf.heap.size,2,none⟩ (.int .i64 (B+1))).setCell ⟨wf.heap.size+1,0,none⟩ (.slice (some ⟨g,0,none⟩) n cc)).setCell ⟨wf.heap.size+1,1,none⟩ (.int .i64 T)).setCell ⟨wf.heap.size+1,2,none⟩ (.int .i64 (B+1))) w1.heap.size (.slice (some ⟨g,0,none⟩) n cc) (R.set p x)):=Zf ((((HO4.out.setFar (by have:=HL1.out;omega)).setFar (by have:=HL1.out;omega)).setFar (by have:=HL1.out;omega)).setFar (by have:=HL1.out;omega));go_wp2;refine Yal (Zhl rfl rfl rfl (B5.out.row 1 _ _ rfl) rfl) rfl ⟨some ⟨g,0,none⟩,n,cc,?_,⟨?_,?_,hln⟩,B5.out.bel⟩
    · unfold Zqm Zqn;rw[HE.out];rfl
    · unfold Zml;rw[HE.out,Zc rfl,HP.out];exact OwnI.down HO5.out (by have:=HL1.out;omega)
    · unfold Zml;rw[HE.out,Zc rfl,List.length_set];exact HN.out
end
structure Kp(bs:List Nat)(w w':World):Prop where
 os:w'.os=w.os
 tape:w'.tape=w.tape
 output:w'.output=w.output
 size:w.heap.size<=w'.heap.size
 block:∀k,k<w.heap.size->k∉bs->w'.heap[k]?=w.heap[k]?
section
variable {w w' w'': World}{bs: List Nat}
theorem Kp.of_below(h:Below w.heap.size w w')(bs:List Nat):Kp bs w w':=⟨h.os,h.tape,h.output,h.size,fun k hk _=>h.block k hk⟩
theorem Kp.below(h:Kp bs w w'){base:Nat}(hb:∀b∈bs,base<=b)(hs:base<=w.heap.size):Below base w w':=
 ⟨h.os,h.tape,h.output,h.size,fun k hk=>h.block k (by omega) fun q=>by have:=hb k q;omega⟩
theorem Kp.trans(h:Kp bs w w')(h2:Kp bs w' w''):Kp bs w w'':=
 ⟨h2.os.trans h.os,h2.tape.trans h.tape,h2.output.trans h.output,ZK h.size h2.size,fun k hk hn=>(h2.block k (by have:=h.size;omega) hn).trans (h.block k hk hn)⟩
theorem Kp.more{cs:List Nat}(h:Kp bs w w')(hm:∀b∈bs,b∈cs):Kp cs w w':=⟨h.os,h.tape,h.output,h.size,fun k hk hn=>h.block k hk fun q=>hn (hm k q)⟩
theorem Kp.set(h:Kp bs w w'){b k:Nat}(v:Value)(hb:b∈bs):Kp bs w (w'.setCell ⟨b,k,none⟩ v):=by
 refine⟨?_,?_,?_,?_,fun j hj hn=> ?_⟩
 ·exact((Zl 0 w').setCell (p:=⟨b,k,none⟩) (Zu b) v).os.trans h.os
 ·exact((Zl 0 w').setCell (p:=⟨b,k,none⟩) (Zu b) v).tape.trans h.tape
 ·exact((Zl 0 w').setCell (p:=⟨b,k,none⟩) (Zu b) v).output.trans h.output
 ·exact ZK h.size ((Zl 0 w').setCell (p:=⟨b,k,none⟩) (Zu b) v).size
 ·rw [Yah _ _ _ _ (fun q => hn (by rw [q]; exact hb))]
  exact h.block j hj hn
theorem Kp.row(h:Kp bs w w'){g:Nat}{t:TypeId}{vs:List Value}(hr:RowV g t vs w)(hn:g∉bs):RowV g t vs w':=by unfold RowV at hr⊢;rw[h.block g (Zk.1 hr).1 hn];exact hr
theorem Kp.own(h:Kp bs w w'){base n s:Nat}{e:TypeId}{v:Value}{xs:List Value}(ho:w.ownsRow base e s v n xs)(hn:∀b,v.ownBlock=some b->b∉bs):w'.ownsRow base e s v n xs:=by
 refine⟨ho.1,?_⟩;rcases ho.2 with h0|⟨g,cap,cur,rfl,hg,hgg,rest⟩
 ·exact .inl h0
 ·refine .inr ⟨g,cap,cur,rfl,hg,?_,rest⟩
  rw[h.block g (Zk.1 hgg).1 (hn g rfl)];exact hgg
end
structure IsWk(w:World)(base gw m:Nat)(g:Gng)(L:List Int)(a:GAd)(vW vE:Value):Prop where
 row:RowV gw 95 (Zkt m a++ [vW,vE]) w
 hw:base<=gw
 gng:IsGng w base m g L a
section
variable {w w': World}{base gw m: Nat}{g: Gng}{L: List Int}{a: GAd}{vW vE: Value}
theorem IsWk.below(h:IsWk w base gw m g L a vW vE)(hb:Below w.heap.size w w'):IsWk w' base gw m g L a vW vE:=⟨h.row.below hb h.row.lt,h.hw,h.gng.below hb⟩
theorem Zew{fn:Func}{p:Tmp}{ty:TypeId}(h:fn.results= #[.cell p ty])(tmps:Array Value)(P:Program)(w:World):
  (results fn tmps).run P w=((asAddr (tmps.getD p Yag)).run P w).andThen fun q w₁=>(loadVar ty q).run P w₁:=by
 simp only[results,h];simp[Sem.run_bind,Result.andThen]
theorem Zoj{fn:Func}{p:Tmp}(h:fn.results= #[.cell p 87]){tmps:Array Value}{w:World}{q:Nat}{cs:List Value}(hp:tmps.getD p Yag=.pointer (some ⟨q,0,none⟩))(h1:RowV q 87 cs w)(l1:cs.length=6):
  (results fn tmps).run Zg w=.ok (.agg cs.toArray) w:=by
 rw[Zew h,hp];simp[asAddr,Zkr h1 l1,Result.andThen]
theorem ZrH:(Zg.info? 149).map (·.size)=some 1:=by kernel_rfl
theorem Zok(x:Int)(w:World):Calls Zg 164 #[.int .i64 x] w fun e w'=>e=.returned (vT (Zaq (decide (x≠0))))/\Below w.heap.size w w':=by
 by_cases h:x=0
 ·have e1: (x != 0) = false:=by simp [h]
  have e2:decide (x≠0)=false:=by simp[h]
  rw[e2];go_enter func164,ntmps164;go_wp2_with fail;exact Yal (Zoj rfl rfl (RowV.new w 87 (cT (Zaq false))) rfl) rfl ⟨rfl,Zaa _⟩
 ·have e1: (x != 0) = true:=by simp [h]
  have e2:decide (x≠0)=true:=by simp[h]
  rw[e2];go_enter func164,ntmps164;go_wp2_with fail;exact Yal (Zoj rfl rfl (RowV.new w 87 (cT (Zaq true))) rfl) rfl ⟨rfl,Zaa _⟩
theorem ZrI{fn:Func}{p:Tmp}(h:fn.results= #[.cell p 149]){tmps:Array Value}{w:World}{q:Nat}{cs:List Value}(hp:tmps.getD p Yag=.pointer (some ⟨q,0,none⟩))(h1:RowV q 149 cs w)(l1:cs.length=1):
  (results fn tmps).run Zg w=.ok (.agg cs.toArray) w:=by
 rw[Zew h,hp];have:(loadVar 149 ⟨q,0,none⟩).run Zg w=.ok (.agg cs.toArray) w:=by unfold RowV at h1;exact run_loadVar_mid w q 0 149 cs _ (fun j v hj=>by rw[Yg];exact RowV.cell h1 hj) underlying149 rfl (by rw[l1];exact ZrH)
 simp[asAddr,this,Result.andThen]
theorem Zgp{c:Nat}(hc:c<m)(h:RowV gw 95 (Zkt m a++ [vW,vE]) w):
  Calls Zg 96 #[.pointer (some ⟨gw,0,none⟩),.int .i64 c] w fun e w'=>e=.returned (.agg #[.pointer (some ⟨a.gD,3 * c,none⟩)])/\Below w.heap.size w w':=by
 have H:=Zf h;have q2:w.cell? ⟨gw,2,none⟩=some (.slice (some ⟨a.gD,0,none⟩) m a.cD):=h.cell rfl;have e3:c * 3=3 * c:=Nat.mul_comm _ _;have hlt:=h.lt;clear h;go_enter func96,ntmps96;go_wp2_with fail;exact Yal (ZrI rfl rfl (RowV.new w 149 [.pointer (some ⟨a.gD,3 * c,none⟩)]) rfl) rfl ⟨rfl,Zaa _⟩
theorem Zgq{c:Nat}(hc:c<m)(h:IsWk w base gw m g L a vW vE):
  Calls Zg 96 #[.pointer (some ⟨gw,0,none⟩),.int .i64 c] w fun e w'=>e=.returned (.agg #[.pointer (some ⟨a.gD,3 * c,none⟩)])/\Below w.heap.size w w':=Zgp hc h.row
end
end Go.Proofs.YtfahabphncmbfaaGreatDoor
