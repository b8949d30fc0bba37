import Derived.Test.YtngdbbligebcbabGreatDoorZM21
import Derived.Test.YtngdbbligebcbabGreatDoorZM18
import Derived.Test.YtngdbbligebcbabGreatDoorZM17
import Derived.Test.YtngdbbligebcbabGreatDoorZM20
import Derived.Test.YtngdbbligebcbabGreatDoorZM6
set_option linter.unusedVariables false
set_option linter.unusedSimpArgs false
set_option maxRecDepth 100000
set_option maxHeartbeats 16000000
namespace Go.Proofs.YtngdbbligebcbabGreatDoor
open Go Go.RowKit
def PhiTu(gw m c x:Nat)(a:GAd):Nat->Value->World->Prop
 |0,v,w=>v= .pointer (some ⟨gw,0,none⟩)
 |1,v,w=>v= .pointer (some ⟨gw,0,none⟩)
 |2,v,w=>v= .pointer (some ⟨gw,0,none⟩)
 |3,v,w=>v= .pointer (some ⟨gw,4,none⟩)
 |4,v,w=>v= .slice (some ⟨a.gF,0,none⟩) m a.cF
 |5,v,w=>v= .int .i64 c
 |6,v,w=>v= .pointer (some ⟨gw,0,none⟩)
 |7,v,w=>v= .pointer (some ⟨gw,0,none⟩)
 |8,v,w=>v= .pointer (some ⟨gw,0,none⟩)
 |9,v,w=>v= .pointer (some ⟨gw,3,none⟩)
 |10,v,w=>v= .slice (some ⟨a.gT,0,none⟩) m a.cT
 |11,v,w=>True
 |12,v,w=>v= .int .i64 x
 |13,v,w=>v= .int .i64 x
 |14,v,w=>v=vT (newTk (decide ((x:Int)≠0)))
 |_,_,_=>True
theorem phiTu_below{gw m c x:Nat}{a:GAd}: ∀kq v w w',PhiTu gw m c x a kq v w->Below w.heap.size w w'->PhiTu gw m c x a kq v w':=by
 intro kq v w w' h hb
 match kq,h with
 |0,h=>exact h
 |1,h=>exact h
 |2,h=>exact h
 |3,h=>exact h
 |4,h=>exact h
 |5,h=>exact h
 |6,h=>exact h
 |7,h=>exact h
 |8,h=>exact h
 |9,h=>exact h
 |10,h=>exact h
 |11,h=>exact h
 |12,h=>exact h
 |13,h=>exact h
 |14,h=>exact h
 |kq+15,h=>exact trivial
def turnG(g:Gng)(c x:Nat):Gng:={g with fr:=updG g.fr c x,tk:=updG g.tk c (newTk (decide ((x:Int)≠0)))}
def ThtTu(wr:World)(base gw m c x:Nat)(g:Gng)(L:List Int)(a:GAd)(vW vE:Value)(t:Nat)(f:Nat->Value)(w:World):Prop:=
 15<=t/\t<=19/\Kp [a.gF,a.gT] wr w/\(t<=16->IsWk w base gw m g L a vW vE)/\(17<=t->t<=18->IsWk w base gw m {g with fr:=updG g.fr c x} L a vW vE)/\(t=19->IsWk w base gw m (turnG g c x) L a vW vE)/\
  (t<=16->f 18= .int .i64 x)/\(t=15->f 10= .slice (some ⟨a.gF,0,none⟩) m a.cF/\f 11= .int .i64 c)/\(t=16->f 21= .pointer (some ⟨a.gF,c,none⟩))/\(t<=17->f 16= .slice (some ⟨a.gT,0,none⟩) m a.cT)/\(t<=18->f 20=vT (newTk (decide ((x:Int)≠0))))/\(t=18->f 22= .pointer (some ⟨a.gT,6 * c,none⟩))
section
variable {base gw m c: Nat} {g: Gng} {L: List Int} {a: GAd} {vW vE: Value}
theorem IsWk.turnF{w:World}(h:IsWk w base gw m g L a vW vE)(hc:c<m)(x:Nat):IsWk (w.setCell ⟨a.gF,c,none⟩ (.int .i64 (x:Int))) base gw m {g with fr:=updG g.fr c x} L a vW vE:=by
 obtain⟨cur,hb,_⟩:=rowN_block h.gng.onF.2;refine⟨h.row.far ?_,h.hw,h.gng.putF hc x⟩
 rintro rfl;have h1:=h.row;unfold RowV at h1;rw[hb]at h1;injection h1 with h1;injection h1 with _ h3 _;exact absurd h3 (by decide)
theorem IsWk.gT_ne{w:World}(h:IsWk w base gw m g L a vW vE):gw≠a.gT:=by
 obtain⟨cur,hb,_⟩:=rowN_block h.gng.tks;rintro rfl;have h1:=h.row;unfold RowV at h1;rw[hb]at h1;injection h1 with h1;injection h1 with _ h3 _;exact absurd h3 (by decide)
theorem IsWk.turnT{w:World}(h:IsWk w base gw m g L a vW vE)(hc:c<m)(t:Tkr):IsWk ((((((w.setCell ⟨a.gT,6 * c,none⟩ (.bool t.steal)).setCell ⟨a.gT,6 * c+1,none⟩ (.int .i64 t.at_)).setCell ⟨a.gT,6 * c+2,none⟩ (.int .i64 t.top)).setCell ⟨a.gT,6 * c+3,none⟩ (.int .i64 t.bot)).setCell ⟨a.gT,6 * c+4,none⟩ (.int .i64 t.got)).setCell ⟨a.gT,6 * c+5,none⟩ (.int .i64 t.end_)) base gw m {g with tk:=updG g.tk c t} L a vW vE:=by
 have hne:=h.gT_ne;exact⟨(((((h.row.far hne).far hne).far hne).far hne).far hne).far hne,h.hw,h.gng.putT hc t⟩
theorem turn_any{c:Nat}(x:Nat)(w:World)(hc:c<m)(hm:m<=8)(h:IsWk w base gw m g L a vW vE):
    Calls Tryz.prog 93 #[.pointer (some ⟨gw,0,none⟩), .int .i64 c, .int .i64 x] w fun e w'=>e= .returned (.tuple #[])/\IsWk w' base gw m (turnG g c x) L a vW vE/\Kp [a.gF,a.gT] w w':=by
  have H:=Lib.hid h;have e6:c * 6=6 * c:=Nat.mul_comm _ _;clear h;go_enter Tryz.func93,Tryz.ntmps93;go_upto_region 0 with fail;have HC:=Lib.hid hc;clear hc;refine wp_region_tail 15 [6,7,8,9,10,11,12,13,14,15,16,17,18,19,20,21,1000,22,1001] [11] (by kernel_rfl) (by kernel_rfl) (by intro d hd;simp at hd⊢;omega) (fun z=>IsWk z base gw m g L a vW vE/\Kp [a.gF,a.gT] w z) (PhiTu gw m c x a) (fun _ v=>v= .int .i64 c) (ThtTu w base gw m c x g L a vW vE)
    (fun z z' h hb=>⟨h.1.below hb,h.2.trans (Kp.of_below hb _)⟩) phiTu_below (⟨H.out.below (Below.refl _ _).drew,Kp.of_below (Below.refl _ _).drew _⟩) ?hstep ?hloose ?hmid ?htail ?hcon ?hend
  case hstep=>
    intro kq o hkm hkF ho a1 w hI hA hd K hK;obtain⟨ρ,hρ⟩: ∃ρ,a1.eval=ρ:=⟨_,rfl⟩;rw[hρ]at hA hd
    match kq,hkm,hkF,ho with
    | 0, _, _, ho =>
      have hoo:=Option.some.inj ho;subst hoo;exact fx_val hK hρ (.pointer (some ⟨gw,0,none⟩)) (by have h:=hA.tmp 0 (by decide);simp[execOp,h,go_sem]) rfl
    | 1, _, _, ho =>
      have hoo:=Option.some.inj ho;subst hoo;have f0:ρ (.tmp 6)= .pointer (some ⟨gw,0,none⟩):=hd ⟨0, .data⟩ (by simp) (by rfl) (by decide)
      exact fx_val hK hρ (.pointer (some ⟨gw,0,none⟩)) (by simp[execOp,f0,go_sem]) rfl
    | 2, _, _, ho =>
      have hoo:=Option.some.inj ho;subst hoo;have f1:ρ (.tmp 7)= .pointer (some ⟨gw,0,none⟩):=hd ⟨1, .data⟩ (by simp) (by rfl) (by decide)
      exact fx_val hK hρ (.pointer (some ⟨gw,0,none⟩)) (by simp[execOp,f1,go_sem]) rfl
    | 3, _, _, ho =>
      have hoo:=Option.some.inj ho;subst hoo;have f2:ρ (.tmp 8)= .pointer (some ⟨gw,0,none⟩):=hd ⟨2, .data⟩ (by simp) (by rfl) (by decide)
      exact fx_val hK hρ (.pointer (some ⟨gw,4,none⟩)) (by simp[execOp,f2,go_sem]) rfl
    | 4, _, _, ho =>
      have hoo:=Option.some.inj ho;subst hoo;have f3:ρ (.tmp 9)= .pointer (some ⟨gw,4,none⟩):=hd ⟨3, .data⟩ (by simp) (by rfl) (by decide)
      have h0:w.cell? ⟨gw,4,none⟩=some (.slice (some ⟨a.gF,0,none⟩) m a.cF):=hI.1.row.cell rfl
      exact fx_val hK hρ (.slice (some ⟨a.gF,0,none⟩) m a.cF) (by simp[execOp,f3,h0,go_sem]) rfl
    | 5, _, _, ho =>
      have hoo:=Option.some.inj ho;subst hoo;exact fx_val hK hρ (.int .i64 c) (by have h:=hA.tmp 1 (by decide);simp[execOp,h,go_sem]) rfl
    | 6, _, _, ho =>
      have hoo:=Option.some.inj ho;subst hoo;exact fx_val hK hρ (.pointer (some ⟨gw,0,none⟩)) (by have h:=hA.tmp 0 (by decide);simp[execOp,h,go_sem]) rfl
    | 7, _, _, ho =>
      have hoo:=Option.some.inj ho;subst hoo;have f6:ρ (.tmp 12)= .pointer (some ⟨gw,0,none⟩):=hd ⟨6, .data⟩ (by simp) (by rfl) (by decide)
      exact fx_val hK hρ (.pointer (some ⟨gw,0,none⟩)) (by simp[execOp,f6,go_sem]) rfl
    | 8, _, _, ho =>
      have hoo:=Option.some.inj ho;subst hoo;have f7:ρ (.tmp 13)= .pointer (some ⟨gw,0,none⟩):=hd ⟨7, .data⟩ (by simp) (by rfl) (by decide)
      exact fx_val hK hρ (.pointer (some ⟨gw,0,none⟩)) (by simp[execOp,f7,go_sem]) rfl
    | 9, _, _, ho =>
      have hoo:=Option.some.inj ho;subst hoo;have f8:ρ (.tmp 14)= .pointer (some ⟨gw,0,none⟩):=hd ⟨8, .data⟩ (by simp) (by rfl) (by decide)
      exact fx_val hK hρ (.pointer (some ⟨gw,3,none⟩)) (by simp[execOp,f8,go_sem]) rfl
    | 10, _, _, ho =>
      have hoo:=Option.some.inj ho;subst hoo;have f9:ρ (.tmp 15)= .pointer (some ⟨gw,3,none⟩):=hd ⟨9, .data⟩ (by simp) (by rfl) (by decide)
      have h0:w.cell? ⟨gw,3,none⟩=some (.slice (some ⟨a.gT,0,none⟩) m a.cT):=hI.1.row.cell rfl
      exact fx_val hK hρ (.slice (some ⟨a.gT,0,none⟩) m a.cT) (by simp[execOp,f9,h0,go_sem]) rfl
    |11,_,hkF,_=>exact absurd (by decide) hkF
    | 12, _, _, ho =>
      have hoo:=Option.some.inj ho;subst hoo;exact fx_val hK hρ (.int .i64 x) (by have h:=hA.tmp 2 (by decide);simp[execOp,h,go_sem]) rfl
    | 13, _, _, ho =>
      have hoo:=Option.some.inj ho;subst hoo;exact fx_val hK hρ (.int .i64 x) (by have h:=hA.tmp 2 (by decide);simp[execOp,h,go_sem]) rfl
    | 14, _, _, ho =>
      have hoo:=Option.some.inj ho;subst hoo;have f13:ρ (.tmp 19)= .int .i64 x:=hd ⟨13, .data⟩ (by simp) (by rfl) (by decide)
      exact fx_call hK hρ 119 _ _ #[.int .i64 x] rfl (by simp only[List.map_toArray,List.map_cons,List.map_nil,hA.const,f13]) (eg_of Tryz.func119 (by kernel_rfl) rfl) ((fresh_any x w).mono fun e w' ⟨he,hb⟩=>⟨_,he,rfl,hb⟩)
    |kq+15,h,_,_=>exact absurd h (by omega)
  case hloose=>
    intro kq o hkF ho ρ w hA hd;simp only[List.mem_cons,List.not_mem_nil,or_false]at hkF;subst hkF;have hoo:=Option.some.inj ho;subst hoo;have h:=hA.tmp 1 (by decide)
    exact⟨.int .i64 c,by simp[execOp,h,go_sem],rfl⟩
  case hmid=>
    intro vals w hI hF;have f10:=hF 4 (by decide) (by decide)
    have f11:=hF 5 (by decide) (by decide)
    have f16:=hF 10 (by decide) (by decide)
    have f18:=hF 12 (by decide) (by decide)
    have f20:=hF 14 (by decide) (by decide)
    exact⟨Nat.le_refl _,by decide,hI.2,fun _=>hI.1,fun h=>absurd h (by decide),fun h=>absurd h (by decide),fun _=>f18,fun _=>⟨f10,f11⟩,fun h=>absurd h (by decide),fun _=>f16,fun _=>f20,fun h=>absurd h (by decide)⟩
  case htail=>
    intro t o htm ho a1 w hA hT hL K hK;have htl:t<19:=(Array.getElem?_eq_some_iff.1 ho).1
    obtain⟨ρ,hρ⟩: ∃ρ,a1.eval=ρ:=⟨_,rfl⟩;rw[hρ]at hA
    try rw[hρ]at hL
    obtain rfl|rfl|rfl|rfl:t=15\/t=16\/t=17\/t=18:=by omega
    · have hoo:=Option.some.inj ho;subst hoo;obtain⟨t1,t2,hkp,i1,i2,i3,j18,j10,j21,j16,j20,j22⟩:=hT;simp only[hρ]at j18 j10 j21 j16 j20 j22;obtain⟨j10a,j11a⟩:=j10 (by first|rfl|trivial|decide)
      have hcm:c<m:=HC.out;have hn: ¬((m:Int)<=(c:Int)):=by omega
      unfold Oper.wp;rw[show(execOp a1.eval _).run Tryz.prog w= .ok (.value (.pointer (some ⟨a.gF,c,none⟩))) (w)from by rw[hρ];simp[execOp,j10a,j11a,hn,hcm,go_sem],Oper.upon_value]
      refine hK _ _ ⟨by decide,by decide,hkp,fun _=>i1 (by first|rfl|trivial|decide),fun h=>absurd h (by decide),fun h=>absurd h (by decide),?_⟩
      simp only[Option.some.injEq,Nat.reduceEqDiff,if_false,if_true,reduceCtorEq,hρ];exact⟨fun _=>j18 (by first|rfl|trivial|decide),fun h=>absurd h (by decide),fun _=>rfl,fun _=>j16 (by first|rfl|trivial|decide),fun _=>j20 (by first|rfl|trivial|decide),fun h=>absurd h (by decide)⟩
    · have hoo:=Option.some.inj ho;subst hoo;obtain⟨t1,t2,hkp,i1,i2,i3,j18,j10,j21,j16,j20,j22⟩:=hT;simp only[hρ]at j18 j10 j21 j16 j20 j22;have hwk:=i1 (by first|rfl|trivial|decide)
      have e18:=j18 (by first|rfl|trivial|decide)
      have e21:=j21 (by first|rfl|trivial|decide)
      have z0:=(hwk.gng.frozen c).2.2.1;have y0:=hwk.gng.fr HC.out;unfold Oper.wp;rw[show(execOp a1.eval _).run Tryz.prog w= .ok .skip (w.setCell ⟨a.gF,c,none⟩ (.int .i64 x))from by rw[hρ];simp[execOp,e18,e21,y0,z0,go_sem],Oper.upon_skip]
      refine hK undef _ ⟨by decide,by decide,hkp.set _ (by simp),fun h=>absurd h (by decide),fun _ _=>hwk.turnF HC.out x,fun h=>absurd h (by decide),?_⟩
      simp only[Option.some.injEq,Nat.reduceEqDiff,if_false,if_true,reduceCtorEq,hρ];exact⟨fun h=>absurd h (by decide),fun h=>absurd h (by decide),fun h=>absurd h (by decide),fun _=>j16 (by first|rfl|trivial|decide),fun _=>j20 (by first|rfl|trivial|decide),fun h=>absurd h (by decide)⟩
    · have hoo:=Option.some.inj ho;subst hoo;obtain⟨t1,t2,hkp,i1,i2,i3,j18,j10,j21,j16,j20,j22⟩:=hT;simp only[hρ]at j18 j10 j21 j16 j20 j22;have hcm:c<m:=HC.out;have hn: ¬((m:Int)<=(c:Int)):=by omega
      have hl1:ρ (.tmp 17)= .int .i64 c:=hL ⟨11, .data⟩ (by simp) (by rfl) (by decide)
      have e16:=j16 (by first|rfl|trivial|decide)
      unfold Oper.wp;rw[show(execOp a1.eval _).run Tryz.prog w= .ok (.value (.pointer (some ⟨a.gT,6 * c,none⟩))) (w)from by rw[hρ];simp[execOp,e16,hl1,hn,hcm,e6,go_sem],Oper.upon_value]
      refine hK _ _ ⟨by decide,by decide,hkp,fun h=>absurd h (by decide),fun _ _=>i2 (by first|rfl|trivial|decide) (by first|rfl|trivial|decide),fun h=>absurd h (by decide),?_⟩
      simp only[Option.some.injEq,Nat.reduceEqDiff,if_false,if_true,reduceCtorEq,hρ];exact⟨fun h=>absurd h (by decide),fun h=>absurd h (by decide),fun h=>absurd h (by decide),fun h=>absurd h (by decide),fun _=>j20 (by first|rfl|trivial|decide),fun _=>rfl⟩
    · have hoo:=Option.some.inj ho;subst hoo;obtain⟨t1,t2,hkp,i1,i2,i3,j18,j10,j21,j16,j20,j22⟩:=hT;simp only[hρ]at j18 j10 j21 j16 j20 j22;have hwk:=i2 (by first|rfl|trivial|decide) (by first|rfl|trivial|decide)
      have e20:=j20 (by first|rfl|trivial|decide)
      have e22:=j22 (by first|rfl|trivial|decide)
      unfold vT newTk at e20;have y0:=hwk.gng.tk HC.out (i:=0) rfl;have v0:=(hwk.gng.frozen (6 * c+0)).2.1;have y1:=hwk.gng.tk HC.out (i:=1) rfl;have v1:=(hwk.gng.frozen (6 * c+1)).2.1;have y2:=hwk.gng.tk HC.out (i:=2) rfl;have v2:=(hwk.gng.frozen (6 * c+2)).2.1;have y3:=hwk.gng.tk HC.out (i:=3) rfl;have v3:=(hwk.gng.frozen (6 * c+3)).2.1;have y4:=hwk.gng.tk HC.out (i:=4) rfl;have v4:=(hwk.gng.frozen (6 * c+4)).2.1;have y5:=hwk.gng.tk HC.out (i:=5) rfl;have v5:=(hwk.gng.frozen (6 * c+5)).2.1;simp only[Nat.add_zero]at y0 v0;unfold Oper.wp;rw[show(execOp a1.eval _).run Tryz.prog w= .ok .skip ((((((w.setCell ⟨a.gT,6 * c,none⟩ (.bool (decide ((x:Int)≠0)))).setCell ⟨a.gT,6 * c+1,none⟩ (.int .i64 0)).setCell ⟨a.gT,6 * c+2,none⟩ (.int .i64 0)).setCell ⟨a.gT,6 * c+3,none⟩ (.int .i64 0)).setCell ⟨a.gT,6 * c+4,none⟩ (.int .i64 0)).setCell ⟨a.gT,6 * c+5,none⟩ (.int .i64 0))from by rw[hρ];simp[execOp,e20,e22,y0,y1,y2,y3,y4,y5,v0,v1,v2,v3,v4,v5,go_sem],Oper.upon_skip]
      refine hK undef _ ⟨by decide,by decide,((((((hkp.set _ (by simp)).set _ (by simp)).set _ (by simp)).set _ (by simp)).set _ (by simp)).set _ (by simp)),fun h=>absurd h (by decide),fun _ h=>absurd h (by decide),fun _=>hwk.turnT HC.out (newTk (decide ((x:Int)≠0))),?_⟩
      simp only[Option.some.injEq,Nat.reduceEqDiff,if_false,if_true,reduceCtorEq,hρ];exact⟨fun h=>absurd h (by decide),fun h=>absurd h (by decide),fun h=>absurd h (by decide),fun h=>absurd h (by decide),fun h=>absurd h (by decide),fun h=>absurd h (by decide)⟩
  case hcon=>
    intro t f g w h hT;obtain⟨t1,t2,hkp,i1,i2,i3,j18,j10,j21,j16,j20,j22⟩:=hT;have q10:=h 4 (by omega) (by simp)
    have q11:=h 5 (by omega) (by simp)
    have q16:=h 10 (by omega) (by simp)
    have q18:=h 12 (by omega) (by simp)
    have q20:=h 14 (by omega) (by simp)
    simp only[List.getD_cons_zero,List.getD_cons_succ]at q10 q11 q16 q18 q20;refine⟨t1,t2,hkp,i1,i2,i3,fun e=>q18▸j18 e,fun e=>⟨q10▸(j10 e).1,q11▸(j10 e).2⟩,fun e=> ?_,fun e=>q16▸j16 e,fun e=>q20▸j20 e,fun e=> ?_⟩
    · have q21:=h 15 (by omega) (by simp)
      simp only[List.getD_cons_zero,List.getD_cons_succ]at q21;exact q21▸j21 e
    · have q22:=h 17 (by omega) (by simp)
      simp only[List.getD_cons_zero,List.getD_cons_succ]at q22;exact q22▸j22 e
  case hend=>
    intro vals w3 hT;obtain⟨t1,t2,hkp,i1,i2,i3,_⟩:=hT;have hwk:=i3 rfl;simp only[fillA,fillL,List.contains_cons,List.contains_nil,Nat.reduceBEq,Bool.or_false,Bool.false_or,Bool.or_true,Bool.true_or,cond_true,cond_false,Nat.zero_add,Nat.reduceAdd];exact bodyPost_end (v:= .tuple #[]) (results_none rfl _ _ _) rfl ⟨rfl,hwk,hkp⟩
end
section
variable {base gw m: Nat} {g: Gng} {L: List Int} {a: GAd} {vW vE: Value} {w: World}
theorem IsWk.gD_ne(h:IsWk w base gw m g L a vW vE):gw≠a.gD:=by
 obtain⟨cur,hb,_⟩:=rowN_block h.gng.dqs;rintro rfl;have h1:=h.row;unfold RowV at h1;rw[hb]at h1;injection h1 with h1;injection h1 with _ h3 _;exact absurd h3 (by decide)
theorem IsWk.putD(h:IsWk w base gw m g L a vW vE){j:Nat}(hj:j<m){R':List Int}(T' B':Int){v:Value}(hv:OwnI w base v R')(hf: ∀b,v.ownBlock=some b->b≠a.gO/\b≠a.gF):
  IsWk (((w.setCell ⟨a.gD,3 * j,none⟩ v).setCell ⟨a.gD,3 * j+1,none⟩ (.int .i64 T')).setCell ⟨a.gD,3 * j+2,none⟩ (.int .i64 B')) base gw m {g with R:=updG g.R j R',T:=updG g.T j T',B:=updG g.B j B'} L {a with Rv:=updG a.Rv j v} vW vE:=by
 have hne:=h.gD_ne;exact⟨((h.row.far hne).far hne).far hne,h.hw,h.gng.putD hj T' B' hv (fun q=>(hf _ q).1 rfl) (fun q=>(hf _ q).2 rfl)⟩
theorem pushE_zero{n T B:Int}(h:pushE n T B=0):0<=T/\T<=B:=by
 unfold pushE at h
 by_cases hc:ChkQ n T B
 ·rw [if_neg (fun q => q hc)] at h
  by_cases hb:B<T\/B=T+n
  ·rw[if_pos hb]at h;cases h
  ·exact⟨hc.2.1,by omega⟩
 ·rw[if_pos hc]at h;cases h
theorem Kp.set3{w w':World}{bs:List Nat}(h:Kp bs w w'){b i j k:Nat}(x y z:Value)(hb:b∈bs):Kp bs w (((w'.setCell ⟨b,i,none⟩ x).setCell ⟨b,j,none⟩ y).setCell ⟨b,k,none⟩ z):=((h.set x hb).set y hb).set z hb
theorem push_new{j:Nat}(x:Int)(w:World)(hj:j<m)(hm:m<=8)(hT:DTab w)(h:IsWk w base gw m g L a vW vE)(hl:(g.R j).length=64)(hp:pushE 64 (g.T j) (g.B j)=0):
  Calls Tryz.prog 71 #[.agg #[.pointer (some ⟨a.gD,3 * j,none⟩)],.int .i64 x] w fun e w'=>e= .returned (.int .i64 0)/\ ∃v,IsWk w' base gw m (pushG g j x) L {a with Rv:=updG a.Rv j v} vW vE/\Kp [a.gD] w w'/\ ∀q,v.ownBlock=some q->w.heap.size<=q:=by
 obtain⟨A,c,hv,_⟩:=(h.gng.ring j hj).slice;rw[hl]at hv;have hown:=h.gng.ring j hj;rw[hv]at hown;have hq0:IsQ w A 64 c (g.R j):=own_isQ hown hl (by decide)
 have hB0:=below_alloc (w:=w) (.cells #[.pointer (some ⟨a.gD,3 * j,none⟩)] 109);have e1:pushT (g.R j).length (g.T j) (g.B j)=g.T j:=by rw[hl];exact if_pos hp
 have e2:pushB (g.R j).length (g.T j) (g.B j)=g.B j+1:=by rw[hl];exact if_pos hp
 have e0:pushE (g.R j).length (g.T j) (g.B j)=0:=by rw[hl];exact hp
 have CP:=Lib.hid (dpush_any (g.T j) (g.B j) x _ (hq0.below hB0) (hT.via hB0));unfold GotPush at CP;rw[e0,e1,e2]at CP;obtain⟨R5,hR5⟩: ∃R5,R5=pushR (g.R j) (g.T j) (g.B j) x:=⟨_,rfl⟩;rw[<-hR5]at CP;have HR5:=Lib.hid hR5;have HE0:=Lib.hid e0;have HB1:=Lib.hid (pushE_zero hp);have H:=Lib.hid h;have HBX:=Lib.hid (RowV.new w 109 [.pointer (some ⟨a.gD,3 * j,none⟩)]);have HB0:=Lib.hid hB0;have c0:=h.gng.dq hj (i:=0) rfl;have c1:=h.gng.dq hj (i:=1) rfl;have c2:=h.gng.dq hj (i:=2) rfl;simp only[Nat.add_zero]at c0;rw[hv]at c0;have hlt:=h.gng.lts.2.1.2;obtain⟨T,hTT⟩: ∃T,T=g.T j:=⟨_,rfl⟩;obtain⟨B,hBB⟩: ∃B,B=g.B j:=⟨_,rfl⟩;rw[<-hTT]at CP c1;rw[<-hBB]at CP c2;have HTT:=Lib.hid hTT;have HBB:=Lib.hid hBB;clear hT hp e0 e1 e2 hq0 hown hR5 hB0 h hTT hBB;go_enter Tryz.func71,Tryz.ntmps71;go_wp2_with fail;refine CP.out.mono ?_
 rintro e v3 ⟨A5,n5,c5,rfl,ho,hb⟩;have HO5:=Lib.hid ho;have HV3:=Lib.hid hb;clear ho hb CP c0 c1 c2;go_upto_region 2 with fail;obtain⟨w5,hw5⟩: ∃w5,w5=v3.alloc (.cells #[.slice A5 n5 c5,.int .i64 T,.int .i64 (B+1)] 81):=⟨_,rfl⟩;obtain⟨g5,hg5⟩: ∃g5,g5=v3.heap.size:=⟨_,rfl⟩;have hbb:Below w.heap.size w w5:=by rw[hw5];exact HB0.out.trans ((HV3.out.trans ((below_alloc _).mono HV3.out.size)).mono HB0.out.size)
 have W5:=Lib.hid (H.out.below hbb);have X5:Hid (RowV g5 81 [.slice A5 n5 c5,.int .i64 T,.int .i64 (B+1)] w5):=Lib.hid (by rw[hw5,hg5];exact RowV.new _ _ _)
 have BX5:Hid (RowV w.heap.size 109 [.pointer (some ⟨a.gD,3 * j,none⟩)] w5):=Lib.hid (by
  rw[hw5];exact(HBX.out.below HV3.out HBX.out.lt).alloc _)
 have HQ5:Hid (OwnI w5 w.heap.size (.slice A5 n5 c5) R5):=Lib.hid (by rw[hw5];exact(HO5.out.1.below (below_alloc _)).down (by simp))
 have HK:=Lib.hid (Kp.of_below hbb [a.gD]);rw[<-hw5,<-hg5];have x0:=X5.out.cell (j:=0) rfl;have x1:=X5.out.cell (j:=1) rfl;have x2:=X5.out.cell (j:=2) rfl;have b0:=BX5.out.cell (j:=0) rfl;have c0:=W5.out.gng.dq hj (i:=0) rfl;have c1:=W5.out.gng.dq hj (i:=1) rfl;have c2:=W5.out.gng.dq hj (i:=2) rfl;have z0:=(W5.out.gng.frozen (3 * j)).1;have z1:=(W5.out.gng.frozen (3 * j+1)).1;have z2:=(W5.out.gng.frozen (3 * j+2)).1;simp only[Nat.add_zero]at c0;clear hw5 hg5 hbb HV3 HO5 HBX HB0;go_wp2;go_ret;refine⟨rfl,.slice A5 n5 c5,?_,HK.out.set3 _ _ _ (by simp),fun q hq=>(row_lts HQ5.out q hq).1⟩
 have hd:=W5.out.putD hj (R':=R5) T (B+1) (HQ5.out.down (by have:=H.out.gng.lts.1.1;have:=H.out.gng.lts.1.2;omega)) (fun b hb=>by
  have:=(row_lts HQ5.out b hb).1;have:=H.out.gng.lts;omega)
 have hR:R5=(g.R j).set ((g.B j).toNat%(g.R j).length) x:=by
  rw[HR5.out];have:=HB1.out;unfold pushR plN;rw[if_pos HE0.out,if_neg (show¬g.B j<0 by omega)]
 rw[hR,HTT.out,HBB.out]at hd;rw[HTT.out,HBB.out];have hpg:pushG g j x={g with R:=updG g.R j ((g.R j).set ((g.B j).toNat%(g.R j).length) x),T:=updG g.T j (g.T j),B:=updG g.B j (g.B j+1)}:=by
  unfold pushG;congr 1
  funext i
  by_cases e:i=j
  ·rw[e,updG_at]
  ·rw[updG_ne _ _ e]
 rw[hpg];exact hd
theorem push_any{j:Nat}(x:Int)(w:World)(hj:j<m)(hm:m<=8)(hT:DTab w)(h:IsWk w base gw m g L a vW vE)(hl:(g.R j).length=64)(hp:pushE 64 (g.T j) (g.B j)=0):
  Calls Tryz.prog 71 #[.agg #[.pointer (some ⟨a.gD,3 * j,none⟩)],.int .i64 x] w fun e w'=>e= .returned (.int .i64 0)/\ ∃v,IsWk w' base gw m (pushG g j x) L {a with Rv:=updG a.Rv j v} vW vE/\Kp [a.gD] w w':=
 (push_new x w hj hm hT h hl hp).mono fun e w' ⟨he,v,h1,h2,_⟩=>⟨he,v,h1,h2⟩
end
theorem rowV_types{g:Nat}{t u:TypeId}{vs us:List Value}{w:World}(h:RowV g t vs w)(h2:RowV g u us w)(hne:t≠u):False:=by
 unfold RowV at h h2;rw[h]at h2;injection h2 with h2;injection h2 with _ h3 _;exact hne h3
theorem own_store{w:World}{base g j:Nat}{t:TypeId}{vs:List Value}{v u:Value}{zs:List Int}(h:OwnI w base v zs)(hr:RowV g t vs w)(ht:3≠t):OwnI (w.setCell ⟨g,j,none⟩ u) base v zs:=by
 refine⟨h.1,?_⟩
 rcases h.2 with hn|⟨g',cap,cur,rfl,hg',hgg,rest⟩
 ·exact .inl hn
 ·refine .inr ⟨g',cap,cur,rfl,hg',?_,rest⟩
  rw[heap_setCell_other _ _ _ _ (by
   show g'≠g
   intro e;subst e;unfold RowV at hr;rw[hgg]at hr;injection hr with hr;injection hr with _ h3 _;exact ht h3)]
  exact hgg
theorem own_store3{w:World}{base g:Nat}{t:TypeId}{vs:List Value}{v x y z:Value}{zs:List Int}(h:OwnI w base v zs)(hr:RowV g t vs w)(ht:3≠t):OwnI (((w.setCell ⟨g,0,none⟩ x).setCell ⟨g,1,none⟩ y).setCell ⟨g,2,none⟩ z) base v zs:=
 own_store (own_store (own_store h hr ht) (hr.set 0 x) ht) ((hr.set 0 x).set 1 y) ht
theorem own_store6{w:World}{base g:Nat}{t:TypeId}{vs:List Value}{v x y z p q r:Value}{zs:List Int}(h:OwnI w base v zs)(hr:RowV g t vs w)(ht:3≠t):OwnI ((((((w.setCell ⟨g,0,none⟩ x).setCell ⟨g,1,none⟩ y).setCell ⟨g,2,none⟩ z).setCell ⟨g,3,none⟩ p).setCell ⟨g,4,none⟩ q).setCell ⟨g,5,none⟩ r) base v zs:=
 own_store (own_store (own_store (own_store3 h hr ht) (((hr.set 0 x).set 1 y).set 2 z) ht) ((((hr.set 0 x).set 1 y).set 2 z).set 3 p) ht) (((((hr.set 0 x).set 1 y).set 2 z).set 3 p).set 4 q) ht
end Go.Proofs.YtngdbbligebcbabGreatDoor
