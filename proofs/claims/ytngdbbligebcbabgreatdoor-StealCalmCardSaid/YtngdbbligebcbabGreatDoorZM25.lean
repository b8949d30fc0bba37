import Derived.Test.YtngdbbligebcbabGreatDoorZM24
import Derived.Test.YtngdbbligebcbabGreatDoorZM7
import Derived.Test.YtngdbbligebcbabGreatDoorZM8
import Derived.Test.YtngdbbligebcbabGreatDoorZM22
import Derived.BigQuiet
import Derived.Deep.QuietTactic
import Derived.Deep.RegionWith
import Derived.Test.YtngdbbligebcbabGreatDoorZM11
import Derived.BigRegion
import Derived.StillTailTactics
import Derived.Laws.ResultCell
set_option linter.unusedSimpArgs false
set_option linter.unusedVariables false
set_option maxRecDepth 100000
set_option maxHeartbeats 4000000
namespace Go.Proofs.YtngdbbligebcbabGreatDoor
open Go.RowKit
section
variable {A: Option Addr} {n c: Nat} {F: Option Addr} {m d: Nat} {W: List Int} {E: List (Int × Int)} {A': Option Addr} {n' c': Nat} {F': Option Addr} {m' d': Nat} {O L: List Int}
end
section
variable {A: Option Addr} {n c: Nat} {F: Option Addr} {m d: Nat} {O L: List Int} {A': Option Addr} {n' c': Nat} {F': Option Addr} {m' d': Nat} {O' L': List Int}
theorem below_alloc2c{w:World}(o p:Obj):Below w.heap.size w ((w.alloc o).alloc p):=(below_alloc o).trans ((below_alloc (w:=w.alloc o) p).mono (by simp))
end
section
variable {T T': Option Addr} {tn tc tn' tc': Nat} {t t': List (List Int)}
end
end Go.Proofs.YtngdbbligebcbabGreatDoor
namespace Go.Proofs.YtngdbbligebcbabGreatDoor
open Go Go.RowKit
open Classical in
noncomputable def newE (W:List Int) (E:List (Int×Int)) (need:List Int) (cores:Int):Int:=if chkE W E=0 then(if FormOk W need cores then 0 else 100)else chkE W E
noncomputable def newO (W:List Int) (E:List (Int×Int)) (need:List Int) (cores:Int):List Int:=if newE W E need cores=0 then List.replicate cores.toNat (-1)else []
noncomputable def newL (W:List Int) (E:List (Int×Int)) (need:List Int) (cores:Int):List Int:=if newE W E need cores=0 then need else []
theorem newE_zero{W:List Int}{E:List (Int×Int)}{need:List Int}{cores:Int}:newE W E need cores=0↔May W E/\FormOk W need cores:=by
 unfold newE
 by_cases h:chkE W E=0
 ·rw [if_pos h]
  by_cases h2:FormOk W need cores
  ·rw[if_pos h2];exact⟨fun _=>⟨chkE_zero.mp h,h2⟩,fun _=>rfl⟩
  ·rw[if_neg h2];exact⟨fun e=>absurd e (by decide),fun e=>absurd e.2 h2⟩
 ·rw[if_neg h];exact⟨fun e=>absurd e h,fun e=>absurd (chkE_zero.mpr e.1) h⟩
structure StNw(wf:World)(hb g:Nat)(vO vL:Value)(O L:List Int)(x:World):Prop where
 bel:Below wf.heap.size wf x
 lo:wf.heap.size+1+1<=hb
 r:x.heap[wf.heap.size+1]? =some (.cells #[.slice none 0 0,.slice none 0 0] 37 (0,0))
 b:x.heap[g]? =some (.cells #[vO,vL] 37 (0,0))
 hg:hb<=g
 on:OwnI x hb vO O
 left:OwnI x hb vL L
 ap: ∀k,vO.ownBlock=some k->vL.ownBlock≠some k
section
variable {wf x y: World} {hb g: Nat} {vO vL: Value} {O L: List Int}
theorem RXs.ownFar2{t u:TypeId}{base base':Nat}{row:Option Nat}{w w':World}(h:RXs u base row w w'){s k:Nat}{v:Value}{xs:List Value}(ho:w.ownsRow base' t s v k xs)(hne:v.ownBlock=none\/v.ownBlock≠row):w'.ownsRow base' t s v k xs:=by
 rcases h with h|⟨h,_⟩
 ·exact own_below ho h
 ·exact ho.kept h hne
theorem StNw.push(h:StNw wf hb g vO vL O L x)(hsz:hb<=x.heap.size){v':Value}{O':List Int}(ho:OwnI y hb v' O')(hr:RXs 3 hb vO.ownBlock x y)(hat: ∀k,v'.ownBlock=some k->vO.ownBlock=some k\/x.heap.size<=k):
  StNw wf hb g v' vL O' L (y.setCell ⟨g,0,none⟩ v'):=by
 have b:=hr.below hsz;have hL:=h.left.blockLt;have hlo:=h.lo;have hg:=h.hg;have hbox:=hr.heap h.b (by decide)
 have hoth: ∀k,k≠g->(y.setCell ⟨g,0,none⟩ v').heap[k]? =y.heap[k]?:=fun k hk=>heap_setCell_other _ _ _ _ hk
 have hleft:OwnI y hb vL L:=by
  refine hr.ownFar2 h.left ?_
  cases hv:vL.ownBlock with
  |none=>exact .inl rfl
  |some q=>exact .inr fun e=>h.ap q e.symm hv
 refine⟨h.bel.trans ((b.mono (by omega)).setCell (by show wf.heap.size<=g;omega) _),h.lo,?_,?_,hg,other_ownC ho hbox (by decide) hoth,other_ownC hleft hbox (by decide) hoth,fun k e1 e2=> ?_⟩
 ·rw [hoth _ (by omega)]
  exact hr.heap h.r (by decide)
 ·have:=heap_setCell_same y g 0 _ _ v' hbox
  simpa using this
 ·rcases hat k e1 with h1 | h1
  ·exact h.ap k h1 e2
  ·have:=(hL k e2).2
   omega
end
theorem new_cell_info:(Tryz.prog.info? 3).map (fun i=>(i.zero,i.size,i.bytes))=some (some (.int .i64 0),1,8):=by kernel_rfl
section
variable {A: Option Addr} {n c: Nat} {F: Option Addr} {m d: Nat} {W: List Int} {E: List (Int × Int)} {N: Option Addr} {nn nc: Nat} {need: List Int}
end
end Go.Proofs.YtngdbbligebcbabGreatDoor
namespace Go.Proofs.YtngdbbligebcbabGreatDoor
open Go.RowKit
def readyW(E:List (Int×Int))(O L:List Int)(k:Nat):List Int:=nums (readyU k E O L)
theorem readyW_step(E:List (Int×Int))(O L:List Int)(k:Nat):readyW E O L (k+1)=if ReadyC E O L k then readyW E O L k++ [(k:Int)]else readyW E O L k:=by
 unfold readyW readyU;rw[List.range_succ,List.filter_append]
 by_cases h:ReadyC E O L k
 ·rw [if_pos h,<- nums_snoc]
  simp[h]
 ·rw [if_neg h]
  simp[h]
theorem readyW_len(E:List (Int×Int))(O L:List Int)(k:Nat):(readyW E O L k).length<=k:=by
 unfold readyW readyU;rw[nums_length];refine Nat.le_trans (List.length_filter_le _ _) ?_
 simp
section
variable {A: Option Addr} {n c: Nat} {F: Option Addr} {m d: Nat} {W: List Int} {E: List (Int × Int)} {A': Option Addr} {n' c': Nat} {F': Option Addr} {m' d': Nat} {O L: List Int}
theorem rreadyC_any(w:World)(hg:IsG w A n c F m d W E)(hk:IsC w A' n' c' F' m' d' O L)(hF:Fits W.length E)(hl:L.length=W.length):
  Calls Tryz.prog 21 #[.agg #[.slice A n c,.slice F m d],.agg #[.slice A' n' c',.slice F' m' d']] w (GotOwn (readyW E O L m') w):=by
 obtain⟨w0,hw0⟩: ∃w0,w0=(w.alloc (.cells #[.slice A n c,.slice F m d] 25)).alloc (.cells #[.slice A' n' c',.slice F' m' d'] 37):=⟨_,rfl⟩;have B0:=BxDC.start hg hk;rw[<-hw0]at B0;have B00:=Lib.hid B0;have CO:=Lib.hid (fun W' (x:Int) (h1:IsG W' A n c F m d W E) (h2:IsC W' A' n' c' F' m' d' O L)=>over_any W' x h1 h2 hF hl)
 have CH:=Lib.hid (fun W' (x:Int) (h2:IsC W' A' n' c' F' m' d' O L)=>has_any A' c' O x W' n' h2.hn (by have:=h2.ln;omega) h2.on)
 have HM:=Lib.hid hk.hm;have hm4:=hk.lm;have HW:=Lib.hid hw0;clear hg hk hw0 B0;go_enter Tryz.func21,Tryz.ntmps21;go_wp2;have hsz:w0.heap.size=w.heap.size+1+1:=by rw[HW.out];simp
 rw[<-HW.out];obtain⟨w1,hw1⟩: ∃w1,w1=w0.alloc (.cells #[] 3):=⟨_,rfl⟩;have B1:=Lib.hid (B00.out.next (by rw[hw1];exact below_alloc _:Below w0.heap.size w0 w1))
 have HO1:Hid (OwnI w1 (w.heap.size+1+1) (.slice (some ⟨w.heap.size+1+1,0,none⟩) 0 0) []):=Lib.hid (by rw[hw1,<-hsz];exact OwnI.new w0 w0.heap.size (Nat.le_refl _))
 rw[<-hw1];clear hw1 hsz B00 HW;go_loopw [5,6] (fun v i wr=> ∃(j k:Nat) (A1:Option Addr) (c1:Nat),j<=m'/\k<=j/\i= .int .i64 j/\v= .slice A1 k c1/\Hid (k=(readyW E O L j).length)/\Hid (OwnI wr (w.heap.size+1+1) v (readyW E O L j))/\Hid (BxDC w A n c F m d W E A' n' c' F' m' d' O L wr)) (fun _ i _=>m' - (intOf i).toNat)
 case atStart=>exact⟨0,0,_,_,Nat.zero_le _,Nat.le_refl _,rfl,rfl,Lib.hid rfl,HO1,B1⟩
 case round=>
  obtain⟨j,k,A1,c1,hj,hkj,rfl,rfl,HK,HO,HB⟩:=hrel;have q0:=HB.out.c0;have q1:=HB.out.c1;have p0:=HB.out.d0;have p1:=HB.out.d1;have hsz:w.heap.size+1+1<=wr.heap.size:=HB.out.lt
  by_cases hlt:j<m'
  ·obtain ⟨b2,off2,y,rfl,hbg2,hy,d2⟩:=HB.out.k.left.at_ (k:=j) (by rw [HM.out]; exact hlt)
   have HY:Hid (leftC L (j:Int)=y):=Lib.hid (by rw[leftC_nat,List.getD_eq_getElem?_getD,hy];rfl)
   have HS:=Lib.hid (readyW_step E O L j);have C1:=Lib.hid (CH.out wr (j:Int) HB.out.k);clear hy hbg2
   by_cases h0:0<y
   ·by_cases hm: (j: Int) ∈ O
    ·have HN: Hid (readyW E O L (j + 1) = readyW E O L j):=Lib.hid (by rw [HS.out,if_neg fun h => h.2.1 hm])
     rw[decide_eq_true hm]at C1;clear hm HS;go_wp2_with fail;refine C1.out.mono ?_
     rintro e wh ⟨rfl,rfl⟩;clear C1;go_wp2;go_roundw
     case rel=>exact⟨j+1,k,A1,c1,by omega,by omega,by go_num,rfl,Lib.hid (by rw[HN.out,HK.out]),Lib.hid (by rw[HN.out];exact HO.out),HB⟩
     case measure=>simp[intOf];omega
    ·rw [decide_eq_false hm] at C1
     by_cases ho:OverC E L (j:Int)
     ·have HN: Hid (readyW E O L (j + 1) = readyW E O L j ++ [(j: Int)]):=Lib.hid (by rw [HS.out,if_pos ⟨by rw [HY.out]; exact h0,hm,ho⟩])
      have C2:=Lib.hid (CO.out wr (j:Int) HB.out.g HB.out.k);rw[decide_eq_true ho]at C2;clear hm HS ho;go_wp2_with fail;refine C1.out.mono ?_
      rintro e wh ⟨rfl,rfl⟩;clear C1;go_wp2_with fail;refine C2.out.mono ?_
      rintro e w2 ⟨rfl,b2⟩;have HB2:=Lib.hid (HB.out.next b2);have HO2:=Lib.hid (HO.out.below b2);have hsz2:w.heap.size+1+1<=w2.heap.size:=Nat.le_trans hsz b2.size;clear b2 C2 HB HO
      go_wp2_with(at_builtin;refine wpList_push rfl _ _ rfl w2 (w.heap.size+1+1) _ (readyW E O L j) (j:Int) k HK.out.symm (by omega) HO2.out hsz2 rfl rfl ?_;intro A2 c2 w3 HO3 HB3;(have HO3':=Lib.hid HO3);(have HB3':=Lib.hid HB3);clear HO3 HB3)
      have HB4:=Lib.hid (HB2.out.later HB3'.out);go_roundw
      case rel=>exact⟨j+1,k+1,A2,c2,by omega,by omega,by go_num,rfl,Lib.hid (by rw[HN.out,List.length_append,<-HK.out];rfl),Lib.hid (by rw[HN.out];exact HO3'.out),HB4⟩
      case measure=>simp[intOf];omega
     ·have HN: Hid (readyW E O L (j + 1) = readyW E O L j):=Lib.hid (by rw [HS.out,if_neg fun h => ho h.2.2])
      have C2:=Lib.hid (CO.out wr (j:Int) HB.out.g HB.out.k);rw[decide_eq_false ho]at C2;clear hm HS ho;go_wp2_with fail;refine C1.out.mono ?_
      rintro e wh ⟨rfl,rfl⟩;clear C1;go_wp2_with fail;refine C2.out.mono ?_
      rintro e w2 ⟨rfl,b2⟩;have HB2:=Lib.hid (HB.out.next b2);have HO2:=Lib.hid (HO.out.below b2);clear b2 C2 HB HO;go_wp2;go_roundw
      case rel=>exact⟨j+1,k,A1,c1,by omega,by omega,by go_num,rfl,Lib.hid (by rw[HN.out,HK.out]),Lib.hid (by rw[HN.out];exact HO2.out),HB2⟩
      case measure=>simp[intOf];omega
   ·have HN: Hid (readyW E O L (j + 1) = readyW E O L j):=Lib.hid (by rw [HS.out,if_neg fun h => h0 (by have:=h.1; rw [HY.out] at this; exact this)])
    have h0b:decide (0<y)=false:=decide_eq_false h0;clear h0 HS C1;go_wp2;go_roundw
    case rel=>exact⟨j+1,k,A1,c1,by omega,by omega,by go_num,rfl,Lib.hid (by rw[HN.out,HK.out]),Lib.hid (by rw[HN.out];exact HO.out),HB⟩
    case measure=>simp[intOf];omega
  ·obtain rfl: m' = j:=by omega
   go_wp2;go_ret
   exact⟨A1,c1,by rw[<-HK.out];rfl,by rw[<-HK.out];exact HO.out.down (by omega),HB.out.bel⟩
end
end Go.Proofs.YtngdbbligebcbabGreatDoor
