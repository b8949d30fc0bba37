import Derived.Test.YtngdbbligebcbabGreatDoorZM11
import Derived.Test.YtngdbbligebcbabGreatDoorZM6
import Derived.Test.YtngdbbligebcbabGreatDoorZM5
import Derived.Test.YtngdbbligebcbabGreatDoorZM4
set_option linter.unusedVariables false
set_option linter.unusedSimpArgs false
set_option maxRecDepth 100000
set_option maxHeartbeats 4000000
namespace Go.Proofs.YtngdbbligebcbabGreatDoor
open Go.RowKit
section
variable {A: Option Addr} {n c: Nat} {F: Option Addr} {m d: Nat} {W: List Int} {E: List (Int × Int)} {A': Option Addr} {n' c': Nat} {F': Option Addr} {m' d': Nat} {O L: List Int}
theorem over_any(w:World)(x:Int)(hg:IsG w A n c F m d W E)(hk:IsC w A' n' c' F' m' d' O L)(hF:Fits W.length E)(hl:L.length=W.length):
  Calls Tryz.prog 47 #[.agg #[.slice A n c,.slice F m d],.agg #[.slice A' n' c',.slice F' m' d'],.int .i64 x] w fun e w'=>e= .returned (.bool (decide (OverC E L x)))/\Below w.heap.size w w':=by
 have B0:=Lib.hid (BxDC.start hg hk);obtain⟨r,hr⟩: ∃r,r=decide (OverC E L x):=⟨_,rfl⟩;rw[<-hr];have HR:Hid (r=true↔ ∀a∈predsL n E x,leftC L a<=0):=Lib.hid (by rw[hr,decide_eq_true_iff,<-hg.hn];exact(over_iff hF x).symm.trans ⟨fun h a ha=>by have:=h a ha;omega,fun h a ha=>by have:=h a ha;omega⟩)
 obtain⟨ps,hps⟩: ∃ps,ps=predsL n E x:=⟨_,rfl⟩;obtain⟨k,hk0⟩: ∃k,k=ps.length:=⟨_,rfl⟩;have HK:=Lib.hid hk0;have hk4:k<=n:=by rw[hk0,hps];exact predsL_length n E x
 have hn4:=hg.ln;have HPS:=Lib.hid hps;have HIN:Hid (∀a∈ps,∃q:Nat,a=q/\q<m'):=Lib.hid (fun a ha=>by
  rw[hps]at ha;obtain⟨q,h1,h2⟩:=predsL_in ha;exact⟨q,h1,by rw[<-hk.hm,hl,hg.hn];exact h2⟩)
 have CP:=Lib.hid (fun W' (h:IsG W' A n c F m d W E)=>preds_any A F n c m d E x W' (by have:=h.ln;omega) h.hm (by have:=h.lm;omega) h.pairs)
 rw[<-hps]at CP HR;have HM:=Lib.hid hk.hm;clear hg hk hr hps hk0;go_enter Tryz.func47,Tryz.ntmps47;go_wp2_with fail;refine(CP.out _ B0.out.g).mono ?_
 rintro e w1 ⟨A1,c1,rfl,hi,b1⟩;rw[<-HK.out];have B1:=Lib.hid (B0.out.next b1);have HI:=Lib.hid hi;clear hi b1 B0;have B2:=Lib.hid (And.intro B1.out HI.out);clear B1 HI;have q1:=B2.out.1.c1;go_wp2;go_loopw [8] (fun i wr=> ∃j:Nat,j<=k/\i= .int .i64 j/\Hid (∀a∈ps.take j,leftC L a<=0)/\Hid (BxDC w A n c F m d W E A' n' c' F' m' d' O L wr/\Ints wr wr.heap.size A1 ps)) (fun i _=>k - (intOf i).toNat)
 case atStart=>exact⟨0,Nat.zero_le _,rfl,Lib.hid (by simp),B2⟩
 case round=>
  obtain⟨j,hj,rfl,HO,HB⟩:=hrel;clear B2;have q1:=HB.out.1.c1
  by_cases hlt:j<k
  ·obtain ⟨bk,off,z,rfl,hbg,hz,d1⟩:=HB.out.2.at_ (k:=j) (by rw [<- HK.out]; exact hlt)
   have HZ:=Lib.hid hz;obtain⟨q,rfl,hq⟩:=HIN.out z (List.mem_of_getElem? hz)
   obtain⟨b2,off2,y,rfl,hbg2,hy,d2⟩:=HB.out.1.k.left.at_ (k:=q) (by rw[HM.out];exact hq)
   have HY:Hid (leftC L (q:Int)=y):=Lib.hid (by rw[leftC_nat,List.getD_eq_getElem?_getD,hy];rfl)
   clear hz hbg hbg2 hy
   by_cases h0:0<y
   ·obtain rfl: r = false:=by
     rw[<-Bool.not_eq_true,HR.out];intro h;have h1:=h _ (List.mem_of_getElem? HZ.out)
     rw[HY.out]at h1;omega
    go_wp2
    go_quiet (fail)
    go_wp2;go_ret
    exact⟨rfl,(HB.out.1.next (below_drewN (Below.refl _ _) _)).bel⟩
   ·have h0b: decide (0 < y) = false:=decide_eq_false h0
    have HO2:Hid (∀a∈ps.take (j+1),leftC L a<=0):=Lib.hid (fun a ha=>by
     rw[take_snoc' HZ.out,List.mem_append,List.mem_singleton]at ha;rcases ha with ha|rfl
     ·exact HO.out a ha
     ·rw[HY.out];omega)
    clear h0;go_wp2
    go_quiet (fail)
    go_wp2;go_roundw
    case rel=>exact⟨j+1,by omega,by go_num,HO2,Lib.hid ⟨HB.out.1.next (below_drewN (Below.refl _ _) _),(HB.out.2.below (below_drewN (Below.refl _ _) _)).more (by simp)⟩⟩
    case measure=>simp[intOf];omega
  ·obtain rfl: k = j:=by omega
   obtain rfl:r=true:=HR.out.mpr (fun a ha=>HO.out a (by rw[List.take_of_length_le (by rw[<-HK.out];exact Nat.le_refl _)];exact ha))
   go_wp2;go_ret
   exact⟨rfl,HB.out.1.bel⟩
end
def readyW(E:List (Int×Int))(O L:List Int)(k:Nat):List Int:=nums (readyU k E O L)
theorem readyW_step(E:List (Int×Int))(O L:List Int)(k:Nat):readyW E O L (k+1)=if ReadyC E O L k then readyW E O L k++ [(k:Int)]else readyW E O L k:=by
 unfold readyW readyU;rw[List.range_succ,List.filter_append]
 by_cases h:ReadyC E O L k
 ·rw [if_pos h,<- nums_snoc]
  simp[h]
 ·rw [if_neg h]
  simp[h]
theorem readyW_len(E:List (Int×Int))(O L:List Int)(k:Nat):(readyW E O L k).length<=k:=by
 unfold readyW readyU;rw[nums_length];refine Nat.le_trans (List.length_filter_le _ _) ?_
 simp
section
variable {A: Option Addr} {n c: Nat} {F: Option Addr} {m d: Nat} {W: List Int} {E: List (Int × Int)} {A': Option Addr} {n' c': Nat} {F': Option Addr} {m' d': Nat} {O L: List Int}
theorem rreadyC_any(w:World)(hg:IsG w A n c F m d W E)(hk:IsC w A' n' c' F' m' d' O L)(hF:Fits W.length E)(hl:L.length=W.length):
  Calls Tryz.prog 21 #[.agg #[.slice A n c,.slice F m d],.agg #[.slice A' n' c',.slice F' m' d']] w (GotOwn (readyW E O L m') w):=by
 obtain⟨w0,hw0⟩: ∃w0,w0=(w.alloc (.cells #[.slice A n c,.slice F m d] 25)).alloc (.cells #[.slice A' n' c',.slice F' m' d'] 37):=⟨_,rfl⟩;have B0:=BxDC.start hg hk;rw[<-hw0]at B0;have B00:=Lib.hid B0;have CO:=Lib.hid (fun W' (x:Int) (h1:IsG W' A n c F m d W E) (h2:IsC W' A' n' c' F' m' d' O L)=>over_any W' x h1 h2 hF hl)
 have CH:=Lib.hid (fun W' (x:Int) (h2:IsC W' A' n' c' F' m' d' O L)=>has_any A' c' O x W' n' h2.hn (by have:=h2.ln;omega) h2.on)
 have HM:=Lib.hid hk.hm;have hm4:=hk.lm;have HW:=Lib.hid hw0;clear hg hk hw0 B0;go_enter Tryz.func21,Tryz.ntmps21;go_wp2;have hsz:w0.heap.size=w.heap.size+1+1:=by rw[HW.out];simp
 rw[<-HW.out];obtain⟨w1,hw1⟩: ∃w1,w1=w0.alloc (.cells #[] 3):=⟨_,rfl⟩;have B1:=Lib.hid (B00.out.next (by rw[hw1];exact below_alloc _:Below w0.heap.size w0 w1))
 have HO1:Hid (OwnI w1 (w.heap.size+1+1) (.slice (some ⟨w.heap.size+1+1,0,none⟩) 0 0) []):=Lib.hid (by rw[hw1,<-hsz];exact OwnI.new w0 w0.heap.size (Nat.le_refl _))
 rw[<-hw1];clear hw1 hsz B00 HW;go_loopw [5,6] (fun v i wr=> ∃(j k:Nat) (A1:Option Addr) (c1:Nat),j<=m'/\k<=j/\i= .int .i64 j/\v= .slice A1 k c1/\Hid (k=(readyW E O L j).length)/\Hid (OwnI wr (w.heap.size+1+1) v (readyW E O L j))/\Hid (BxDC w A n c F m d W E A' n' c' F' m' d' O L wr)) (fun _ i _=>m' - (intOf i).toNat)
 case atStart=>exact⟨0,0,_,_,Nat.zero_le _,Nat.le_refl _,rfl,rfl,Lib.hid rfl,HO1,B1⟩
 case round=>
  obtain⟨j,k,A1,c1,hj,hkj,rfl,rfl,HK,HO,HB⟩:=hrel;have q0:=HB.out.c0;have q1:=HB.out.c1;have p0:=HB.out.d0;have p1:=HB.out.d1;have hsz:w.heap.size+1+1<=wr.heap.size:=HB.out.lt
  by_cases hlt:j<m'
  ·obtain ⟨b2,off2,y,rfl,hbg2,hy,d2⟩:=HB.out.k.left.at_ (k:=j) (by rw [HM.out]; exact hlt)
   have HY:Hid (leftC L (j:Int)=y):=Lib.hid (by rw[leftC_nat,List.getD_eq_getElem?_getD,hy];rfl)
   have HS:=Lib.hid (readyW_step E O L j);have C1:=Lib.hid (CH.out wr (j:Int) HB.out.k);clear hy hbg2
   by_cases h0:0<y
   ·by_cases hm: (j: Int) ∈ O
    ·have HN: Hid (readyW E O L (j + 1) = readyW E O L j):=Lib.hid (by rw [HS.out,if_neg fun h => h.2.1 hm])
     rw[decide_eq_true hm]at C1;clear hm HS;go_wp2_with fail;refine C1.out.mono ?_
     rintro e wh ⟨rfl,rfl⟩;clear C1;go_wp2;go_roundw
     case rel=>exact⟨j+1,k,A1,c1,by omega,by omega,by go_num,rfl,Lib.hid (by rw[HN.out,HK.out]),Lib.hid (by rw[HN.out];exact HO.out),HB⟩
     case measure=>simp[intOf];omega
    ·rw [decide_eq_false hm] at C1
     by_cases ho:OverC E L (j:Int)
     ·have HN: Hid (readyW E O L (j + 1) = readyW E O L j ++ [(j: Int)]):=Lib.hid (by rw [HS.out,if_pos ⟨by rw [HY.out]; exact h0,hm,ho⟩])
      have C2:=Lib.hid (CO.out wr (j:Int) HB.out.g HB.out.k);rw[decide_eq_true ho]at C2;clear hm HS ho;go_wp2_with fail;refine C1.out.mono ?_
      rintro e wh ⟨rfl,rfl⟩;clear C1;go_wp2_with fail;refine C2.out.mono ?_
      rintro e w2 ⟨rfl,b2⟩;have HB2:=Lib.hid (HB.out.next b2);have HO2:=Lib.hid (HO.out.below b2);have hsz2:w.heap.size+1+1<=w2.heap.size:=Nat.le_trans hsz b2.size;clear b2 C2 HB HO
      go_wp2_with(at_builtin;refine wpList_push rfl _ _ rfl w2 (w.heap.size+1+1) _ (readyW E O L j) (j:Int) k HK.out.symm (by omega) HO2.out hsz2 rfl rfl ?_;intro A2 c2 w3 HO3 HB3;(have HO3':=Lib.hid HO3);(have HB3':=Lib.hid HB3);clear HO3 HB3)
      have HB4:=Lib.hid (HB2.out.later HB3'.out);go_roundw
      case rel=>exact⟨j+1,k+1,A2,c2,by omega,by omega,by go_num,rfl,Lib.hid (by rw[HN.out,List.length_append,<-HK.out];rfl),Lib.hid (by rw[HN.out];exact HO3'.out),HB4⟩
      case measure=>simp[intOf];omega
     ·have HN: Hid (readyW E O L (j + 1) = readyW E O L j):=Lib.hid (by rw [HS.out,if_neg fun h => ho h.2.2])
      have C2:=Lib.hid (CO.out wr (j:Int) HB.out.g HB.out.k);rw[decide_eq_false ho]at C2;clear hm HS ho;go_wp2_with fail;refine C1.out.mono ?_
      rintro e wh ⟨rfl,rfl⟩;clear C1;go_wp2_with fail;refine C2.out.mono ?_
      rintro e w2 ⟨rfl,b2⟩;have HB2:=Lib.hid (HB.out.next b2);have HO2:=Lib.hid (HO.out.below b2);clear b2 C2 HB HO;go_wp2;go_roundw
      case rel=>exact⟨j+1,k,A1,c1,by omega,by omega,by go_num,rfl,Lib.hid (by rw[HN.out,HK.out]),Lib.hid (by rw[HN.out];exact HO2.out),HB2⟩
      case measure=>simp[intOf];omega
   ·have HN: Hid (readyW E O L (j + 1) = readyW E O L j):=Lib.hid (by rw [HS.out,if_neg fun h => h0 (by have:=h.1; rw [HY.out] at this; exact this)])
    have h0b:decide (0<y)=false:=decide_eq_false h0;clear h0 HS C1;go_wp2;go_roundw
    case rel=>exact⟨j+1,k,A1,c1,by omega,by omega,by go_num,rfl,Lib.hid (by rw[HN.out,HK.out]),Lib.hid (by rw[HN.out];exact HO.out),HB⟩
    case measure=>simp[intOf];omega
  ·obtain rfl: m' = j:=by omega
   go_wp2;go_ret
   exact⟨A1,c1,by rw[<-HK.out];rfl,by rw[<-HK.out];exact HO.out.down (by omega),HB.out.bel⟩
end
end Go.Proofs.YtngdbbligebcbabGreatDoor
namespace Go.Proofs.YtngdbbligebcbabGreatDoor
open Go Go.RowKit
def allG(g:Gng)(k:Nat):List Int:=(List.range k).flatMap fun j=>itemsD (g.R j) (g.T j) (g.B j)
def heldB(g:Gng)(j:Nat):Bool:=decide (g.O.getD j 0<0)&&(!(g.tk j).steal&&(decide (0<(g.tk j).at_)&&(decide ((g.tk j).at_=4)||(decide ((g.tk j).at_<3)&&decide (g.T j<=(g.tk j).bot)))))
def heldG(g:Gng)(k:Nat):Nat:=sumN (fun j=>if heldB g j then 1 else 0) k
theorem allG_succ(g:Gng)(k:Nat):allG g (k+1)=allG g k++itemsD (g.R k) (g.T k) (g.B k):=by
 unfold allG;rw[List.range_succ,List.flatMap_append];simp
theorem heldG_succ(g:Gng)(k:Nat):heldG g (k+1)=heldG g k+if heldB g k then 1 else 0:=rfl
theorem count_flat(f:Nat->List Int)(x:Int): ∀m,((List.range m).flatMap f).count x=sumN (fun j=>(f j).count x) m
  |0=>rfl
  | m + 1 => by
    rw[List.range_succ,List.flatMap_append,List.count_append,count_flat f x m];simp[sumN]
theorem len_flat(f:Nat->List Int): ∀m,((List.range m).flatMap f).length=sumN (fun j=>(f j).length) m
  |0=>rfl
  | m + 1 => by
    rw[List.range_succ,List.flatMap_append,List.length_append,len_flat f m];simp[sumN]
def lftL(g:Gng)(j:Nat):List Int:=handD (owG g j)++itemsD (g.R j) (g.T j) (virG g j)
theorem lftL_count(g:Gng)(j:Nat)(x:Int):(lftL g j).count x=lftG g j x:=by
 unfold lftL lftG lftD virG;rw[List.count_append]
section
variable {n m: Nat} {E: List (Int × Int)} {L: List Int} {g: Gng}
theorem items_count(g:Gng)(j:Nat)(x:Int):(itemsD (g.R j) (g.T j) (g.B j)).count x<=lftG g j x:=by
 unfold lftG lftD;have h:(itemsD (g.R j) (g.T j) (g.B j)).count x<=(itemsD (g.R j) (g.T j) (virD (g.B j) (owG g j))).count x:=by
  unfold virD
  split
  ·exact Nat.le_refl _
  ·by_cases ht: g.T j <= g.B j
   ·rw [itemsD_last (V:=g.B j + 1) (by omega),List.count_append,show g.B j + 1 - 1 = g.B j by omega]
    omega
   ·rw [itemsD_empty (by omega)]
    simp
 omega
theorem held_len(h:GOk n m E L g){j:Nat}(hj:j<m):(lftL g j).length=(itemsD (g.R j) (g.T j) (g.B j)).length+if heldB g j then 1 else 0:=by
 have ho:=(h.dq j hj).own;have hlo:=(h.dq j hj).lo
 by_cases hf:g.fr j=0
 ·have e: owG g j = g.tk j:=if_pos hf
  have hO:g.O.getD j 0= -1\/g.tk j=newTk false:=by
   by_cases q:g.O.getD j 0= -1
   ·exact .inl q
   ·exact .inr (h.busy j hj q).2
  unfold lftL virG heldB;rw[e]at ho hlo⊢;obtain⟨h1,h2,h3,h4⟩:=ho;obtain⟨t,ht⟩: ∃t,g.tk j=t:=⟨_,rfl⟩;rw[ht]at h1 h2 h3 h4 hO hlo⊢;obtain⟨s,a,tp,bo,go,en⟩:=t;simp only at h1 h2 h3 h4 hlo⊢;subst h1;rw[List.length_append,itemsD_len,itemsD_len];unfold virD at hlo⊢;unfold handD;simp only at hlo⊢;rcases h4 with rfl|⟨rfl,h4⟩
  ·simp
  ·have hO1: g.O.getD j 0 = -1:=by
    rcases hO with q|q
    ·exact q
    ·unfold newTk at q
     injection q with _ q;omega
   rw[hO1];rcases h4 with rfl|⟨rfl,_,hb⟩|⟨rfl,hb⟩|⟨rfl,hb⟩
   ·simp at hlo
    by_cases q:g.T j<=g.B j
    ·simp[q];omega
    ·simp[q];omega
   ·simp at hlo
    by_cases q:g.T j<=g.B j
    ·simp[q];omega
    ·simp[q];omega
   ·simp[hb];omega
   ·simp[hb];omega
 ·have e: owG g j = newTk false:=if_neg hf
  have hs:=(h.th j hj hf).1;unfold lftL virG heldB;rw[e,hs];simp[newTk,virD,handD]
theorem count_ready(n:Nat)(E:List (Int×Int))(O L:List Int)(x:Int):(nums (readyU n E O L)).count x=if(0<=x/\x<n)/\ReadyC E O L x.toNat then 1 else 0:=by
 have hn:(nums (readyU n E O L)).Nodup:=by
  unfold nums readyU;have h0:((List.range n).filter fun x=>decide (ReadyC E O L x)).Nodup:=List.nodup_range.filter _
  exact List.Pairwise.map (R:=fun a b=>a≠b) (S:=fun a b=>a≠b) Int.ofNat (fun a b (hab:a≠b) q=>hab (Int.ofNat.inj q)) h0
 by_cases hx:(0<=x/\x<n)/\ReadyC E O L x.toNat
 ·rw [if_pos hx]
  have h1:x∈nums (readyU n E O L):=by
   have:((x.toNat:Nat):Int)∈nums (readyU n E O L):=mem_nums.mpr (mem_readyU.mpr ⟨by omega,hx.2⟩)
   rwa [Int.toNat_of_nonneg hx.1.1]at this
  have h2:=List.nodup_iff_count.mp hn x;have h3:=List.count_pos_iff.mpr h1;omega
 ·rw [if_neg hx]
  refine List.count_eq_zero.mpr fun q=>hx ?_
  unfold nums at q;obtain⟨y,hy,rfl⟩:=List.mem_map.mp q;obtain⟨h1,h2⟩:=mem_readyU.mp hy;exact⟨⟨by simp,by simpa using h1⟩,by simpa using h2⟩
theorem all_count(h:GOk n m E L g)(x:Int):(allG g m).count x<=(nums (readyU n E g.O L)).count x:=by
 rw[count_ready,<-h.once x];unfold allG;rw[count_flat];exact sumN_le fun j _=>items_count g j x
theorem once_spec(h:GOk n m E L g):(allG g m).Nodup/\(∀x∈allG g m,x∈nums (readyU n E g.O L))/\(allG g m).length+heldG g m=(readyU n E g.O L).length:=by
 refine⟨?_,fun x hx=> ?_,?_⟩
 ·refine List.nodup_iff_count.mpr fun x => ?_
  have h1:=all_count h x;rw[count_ready]at h1
  split at h1<;>omega
 ·have h1:=all_count h x
  have h2:=List.count_pos_iff.mpr hx;exact List.count_pos_iff.mp (by omega)
 ·have hp: ((List.range m).flatMap (lftL g)).Perm (nums (readyU n E g.O L)):=by
   refine List.perm_iff_count.mpr fun x=> ?_
   rw[count_flat,count_ready,<-h.once x];exact sumN_congr fun j _=>lftL_count g j x
  have h1:=hp.length_eq;rw[len_flat]at h1;unfold nums at h1;rw[List.length_map]at h1;rw[<-h1,sumN_congr (g:=fun j=>(itemsD (g.R j) (g.T j) (g.B j)).length+if heldB g j then 1 else 0) fun j hj=>held_len h hj,sumN_add]
  unfold allG heldG;rw[len_flat]
end
end Go.Proofs.YtngdbbligebcbabGreatDoor
namespace Go.Proofs.YtngdbbligebcbabGreatDoor
def pushG(g:Gng)(i:Nat)(x:Int):Gng:=
 {g with R:=updG g.R i ((g.R i).set ((g.B i).toNat%(g.R i).length) x),B:=updG g.B i (g.B i+1)}
def pushesG(g:Gng)(i:Nat):List Nat->Gng
 | []=>g
 |x::r=>pushesG (pushG g i (x:Int)) i r
def succU(n:Nat)(E:List (Int×Int))(x:Int):List Nat:=(List.range n).filter fun(y:Nat)=>decide ((x,(y:Int))∈E)
theorem mem_succU{n:Nat}{E:List (Int×Int)}{x:Int}{y:Nat}:y∈succU n E x↔y<n/\(x,(y:Int))∈E:=by
 unfold succU;rw[List.mem_filter,List.mem_range,decide_eq_true_iff]
def mineG(n:Nat)(E:List (Int×Int))(O L:List Int)(D:List Nat)(k:Nat):List Nat:=
 if O.getD k 0≠ -1/\leftC L (O.getD k 0)=1 then(succU n E (O.getD k 0)).filter fun y=>decide (y∈readyU n E (onT O L) (leftT O L)/\y∉D)else []
def tickK(n:Nat)(E:List (Int×Int))(L:List Int)(g:Gng):Nat->Gng×List Nat
 |0=>({g with O:=onT g.O L},[])
 |k+1=>(pushesG (tickK n E L g k).1 k (mineG n E g.O L (tickK n E L g k).2 k),(tickK n E L g k).2++mineG n E g.O L (tickK n E L g k).2 k)
def tickG(n m:Nat)(E:List (Int×Int))(L:List Int)(g:Gng):Gng:=(tickK n E L g m).1
theorem sumN_le_one{f:Nat->Nat}{m j:Nat}(hj:j<m):f j<=sumN f m:=by
  induction m with
  |zero=>omega
  | succ m ih =>
    show f j<=sumN f m+f m
    by_cases h:j=m
    · subst h;omega
    · have:=ih (by omega);omega
structure TkInv(n m:Nat)(E:List (Int×Int))(O L:List Int)(g0 g:Gng)(D:List Nat):Prop where
 same:g.T=g0.T/\g.tk=g0.tk/\g.fr=g0.fr/\g.O=onT O L
 rl: ∀j,j<m->(g.R j).length=64
 lo: ∀j,j<m->g.T j<=g.B j
 once: ∀x:Int,sumN (fun j=>(itemsD (g.R j) (g.T j) (g.B j)).count x) m=if(0<=x/\x<n)/\ReadyC E (onT O L) (leftT O L) x.toNat/\(OverC E L x\/x.toNat∈D)then 1 else 0
 few:sumN (fun j=>(g.B j).toNat) m<=sumN (fun x=>if OverC E L (x:Int)\/(OverC E (leftT O L) (x:Int)/\x∈D)then 1 else 0) n
section
variable {n m: Nat} {E: List (Int × Int)} {L: List Int} {g: Gng} {c: Nat} {picks: List Int}
theorem ready_tick(h:CrewOk n E g.O L)(hF:Fits n E){x:Nat}(hx:x<n):ReadyC E g.O L x↔ReadyC E (onT g.O L) (leftT g.O L) x/\OverC E L (x:Int):=by
 have hl:=leftT_at (O:=g.O) (L:=L) (x:=x) (by rw[h.ln];exact hx)
 constructor
 ·rintro ⟨a,b,d⟩
  rw[if_neg b]at hl;exact⟨⟨by omega,fun q=>b ((mem_onT (by omega)).mp q).1,d.mono hF fun m hm=>leftT_le (by rw[h.ln];exact hm)⟩,d⟩
 ·rintro ⟨⟨a,b,_⟩,d⟩
  have hnO:(x:Int)∉g.O:=fun q=>by
   rw[if_pos q]at hl;have:=mt (mem_onT (O:=g.O) (L:=L) (x:=(x:Int)) (by omega)).mpr b
   by_cases h1:leftC L (x:Int)=1
   ·omega
   ·exact this ⟨q,h1⟩
  rw[if_neg hnO]at hl;exact⟨by omega,hnO,d⟩
theorem TkInv.start(h:GOk n m E L g)(hF:Fits n E)(h0: ∀c,c<m->(g.tk c).at_=0):TkInv n m E g.O L g {g with O:=onT g.O L} []:=by
 have hat: ∀j,j<m->(owG g j).at_=0:=fun j hj=>by
  unfold owG
  split
  ·exact h0 j hj
  ·rfl
 have hv: ∀j,j<m->virG g j=g.B j:=fun j hj=>if_pos (hat j hj)
 refine⟨⟨rfl,rfl,rfl,rfl⟩,h.rl,fun j hj=> ?_,fun x=> ?_,?_⟩
 ·have:=(h.dq j hj).lo
  show g.T j<=g.B j
  rw[<-hv j hj];exact this
 ·have h1:=h.once x
  have h2:sumN (fun j=>lftG g j x) m=sumN (fun j=>(itemsD (g.R j) (g.T j) (g.B j)).count x) m:=sumN_congr fun j hj=>by
   unfold lftG lftD handD virD;rw[if_neg (by rw[hat j hj];decide),if_pos (hat j hj),List.count_nil,Nat.zero_add]
  rw[h2]at h1;show sumN (fun j=>(itemsD (g.R j) (g.T j) (g.B j)).count x) m=_
  rw[h1]
  by_cases hx:0<=x/\x<n
  ·have hr:=ready_tick h.crew hF (x:=x.toNat) (by omega)
   rw[show((x.toNat:Nat):Int)=x by omega]at hr
   by_cases hq:ReadyC E g.O L x.toNat
   ·rw[if_pos ⟨hx,hq⟩,if_pos ⟨hx,(hr.mp hq).1,.inl (hr.mp hq).2⟩]
   ·rw [if_neg (fun q => hq q.2),if_neg]
    rintro⟨_,q1,q2|q2⟩
    ·exact hq (hr.mpr ⟨q1,q2⟩)
    ·simp at q2
  ·rw[if_neg (fun q=>hx q.1),if_neg (fun q=>hx q.1)]
 ·refine Nat.le_trans (Nat.le_of_eq ?_) (Nat.le_trans h.few (sumN_le fun x hx => ?_))
  ·exact sumN_congr fun j hj=>by rw[hv j hj]
  ·by_cases hq: OverC E L (x: Int)
   ·rw[if_pos hq,if_pos (.inl hq)];exact Nat.le_refl _
   ·rw[if_neg hq];exact Nat.zero_le _
theorem TkInv.room{O:List Int}{g0:Gng}{D:List Nat}(h:TkInv n m E O L g0 g D)(n64:n<=64){y:Nat}(hy:y<n)(hno: ¬OverC E L (y:Int))(hD:y∉D){i:Nat}(hi:i<m):(g.B i).toNat<64:=by
 have h1:=sumN_le_one (f:=fun j=>(g.B j).toNat) hi
 have h2:=h.few;have h3:sumN (fun x=>if OverC E L (x:Int)\/(OverC E (leftT O L) (x:Int)/\x∈D)then 1 else 0) n+1<=sumN (fun _=>1) n:=by
  have h4:=sumN_upd (f:=fun x=>if OverC E L (x:Int)\/(OverC E (leftT O L) (x:Int)/\x∈D)then 1 else 0) (f':=fun x=>if x=y then 1 else if OverC E L (x:Int)\/(OverC E (leftT O L) (x:Int)/\x∈D)then 1 else 0) hy fun k _ hk=>if_neg hk
  have h5:(if OverC E L (y:Int)\/(OverC E (leftT O L) (y:Int)/\y∈D)then 1 else 0)=0:=if_neg fun q=>q.elim hno fun q=>hD q.2
  simp only[h5,if_true]at h4;have h6:sumN (fun x=>if x=y then 1 else if OverC E L (x:Int)\/(OverC E (leftT O L) (x:Int)/\x∈D)then 1 else 0) n<=sumN (fun _=>1) n:=sumN_le fun k _=>by
   split
   ·omega
   ·split<;>omega
  omega
 rw[sumN_const]at h3;omega
theorem TkInv.push{O:List Int}{g0:Gng}{D:List Nat}(h:TkInv n m E O L g0 g D)(hT: ∀j,j<m->0<=g.T j)(n64:n<=64){y:Nat}(hy:y<n)(hr:ReadyC E (onT O L) (leftT O L) y)(hno: ¬OverC E L (y:Int))(hD:y∉D){i:Nat}(hi:i<m):
  TkInv n m E O L g0 (pushG g i (y:Int)) (D++ [y]):=by
 have hroom:=h.room n64 hy hno hD hi;have hTi:=hT i hi;have hlo:=h.lo i hi;have hlen:=h.rl i hi;have hit:=itemsD_push (R:=g.R i) (T:=g.T i) (B:=g.B i) (v:=(y:Int)) hTi hlo (by rw[hlen];omega)
 refine⟨h.same,fun j hj=> ?_,fun j hj=> ?_,fun x=> ?_,?_⟩
 ·show (updG g.R i _ j).length = 64
  by_cases hji:j=i
  ·rw[hji,updG_at,List.length_set];exact hlen
  ·rw[updG_ne _ _ hji];exact h.rl j hj
 ·show g.T j <= updG g.B i (g.B i + 1) j
  by_cases hji:j=i
  ·rw[hji,updG_at];omega
  ·rw[updG_ne _ _ hji];exact h.lo j hj
 ·have h1:=sumN_upd (f:=fun j => (itemsD (g.R j) (g.T j) (g.B j)).count x) (f':=fun j => (itemsD (updG g.R i ((g.R i).set ((g.B i).toNat % (g.R i).length) (y: Int)) j) (g.T j) (updG g.B i (g.B i + 1) j)).count x) hi fun k _ hk => by
   rw[updG_ne _ _ hk,updG_ne _ _ hk]
  simp only[updG_at]at h1;rw[hit,count_one]at h1;show sumN (fun j=>(itemsD (updG g.R i ((g.R i).set ((g.B i).toNat%(g.R i).length) (y:Int)) j) (g.T j) (updG g.B i (g.B i+1) j)).count x) m=_
  have h2:=h.once x
  by_cases hyx:(y:Int)=x
  ·subst hyx
   rw[if_pos rfl]at h1;rw[if_neg (fun q=>q.2.2.elim hno fun q2=>hD (by rw[Int.toNat_natCast]at q2;exact q2))]at h2
   rw[if_pos ⟨⟨by omega,by omega⟩,by rw[Int.toNat_natCast];exact hr,.inr (by rw[Int.toNat_natCast];simp)⟩]
   omega
  ·rw [if_neg hyx] at h1
   have h3:sumN (fun j=>(itemsD (updG g.R i ((g.R i).set ((g.B i).toNat%(g.R i).length) (y:Int)) j) (g.T j) (updG g.B i (g.B i+1) j)).count x) m=sumN (fun j=>(itemsD (g.R j) (g.T j) (g.B j)).count x) m:=by omega
   rw[h3,h2]
   by_cases hx:0<=x/\x<n
   ·have hm: x.toNat ∈ D ++ [y] ↔ x.toNat ∈ D:=by
     rw[List.mem_append,List.mem_singleton];exact⟨fun q=>q.elim id fun q=>by omega,.inl⟩
    simp only[hm]
   ·rw[if_neg (fun q=>hx q.1),if_neg (fun q=>hx q.1)]
 ·have h1:=sumN_upd (f:=fun j => (g.B j).toNat) (f':=fun j => (updG g.B i (g.B i + 1) j).toNat) hi fun k _ hk => by rw [updG_ne _ _ hk]
  simp only[updG_at]at h1;show sumN (fun j=>(updG g.B i (g.B i+1) j).toNat) m<=_
  have h2:=sumN_upd (f:=fun x=>if OverC E L (x:Int)\/(OverC E (leftT O L) (x:Int)/\x∈D)then 1 else 0) (f':=fun x=>if OverC E L (x:Int)\/(OverC E (leftT O L) (x:Int)/\x∈D++ [y])then 1 else 0) hy fun k _ hk=>by
   have hm:k∈D++ [y]↔k∈D:=by
    rw[List.mem_append,List.mem_singleton];exact⟨fun q=>q.elim id fun q=>absurd q hk,.inl⟩
   simp only[hm]
  have h5:(if OverC E L (y:Int)\/(OverC E (leftT O L) (y:Int)/\y∈D)then 1 else 0)=0:=if_neg fun q=>q.elim hno fun q=>hD q.2
  have h6:(if OverC E L (y:Int)\/(OverC E (leftT O L) (y:Int)/\y∈D++ [y])then 1 else 0)=1:=if_pos (.inr ⟨hr.2.2,by simp⟩)
  simp only[h5,h6]at h2;have h7:=h.few;have h8:(g.B i+1).toNat=(g.B i).toNat+1:=by omega
  omega
theorem TkInv.pushes{O:List Int}{g0:Gng}{i:Nat}(hi:i<m)(n64:n<=64): ∀{l D:List Nat} {g:Gng},TkInv n m E O L g0 g D->(∀j,j<m->0<=g0.T j)->l.Nodup->
    (∀y∈l,y<n/\ReadyC E (onT O L) (leftT O L) y/\ ¬OverC E L (y:Int)/\y∉D)->TkInv n m E O L g0 (pushesG g i l) (D++l)
  | [],D,g,h,_,_,_=>by rw[List.append_nil];exact h
  | y :: r, D, g, h, hT, hnd, hl => by
    obtain⟨a,b,d,e⟩:=hl y List.mem_cons_self;have h1:=h.push (fun j hj=>by rw[h.same.1];exact hT j hj) n64 a b d e hi
    have h2:=TkInv.pushes hi n64 h1 hT (List.nodup_cons.mp hnd).2 fun z hz=>by
      obtain⟨q1,q2,q3,q4⟩:=hl z (List.mem_cons_of_mem _ hz);refine⟨q1,q2,q3,fun q=> ?_⟩
      rw[List.mem_append,List.mem_singleton]at q;rcases q with q|rfl
      · exact q4 q
      · exact(List.nodup_cons.mp hnd).1 hz
    rw[List.append_assoc]at h2;exact h2
theorem mem_mine{O:List Int}{D:List Nat}{k y:Nat}:y∈mineG n E O L D k↔(O.getD k 0≠ -1/\leftC L (O.getD k 0)=1)/\(y<n/\(O.getD k 0,(y:Int))∈E)/\ReadyC E (onT O L) (leftT O L) y/\y∉D:=by
 unfold mineG
 by_cases h:O.getD k 0≠ -1/\leftC L (O.getD k 0)=1
 ·rw [if_pos h,List.mem_filter,mem_succU,decide_eq_true_iff,mem_readyU]
  exact⟨fun⟨a,b,d⟩=>⟨h,a,b.2,d⟩,fun⟨_,a,b,d⟩=>⟨a,⟨a.1,b⟩,d⟩⟩
 ·rw [if_neg h]
  exact⟨fun q=>absurd q (by simp),fun q=>absurd q.1 h⟩
theorem tick_upto(h:GOk n m E L g)(hF:Fits n E)(h0: ∀c,c<m->(g.tk c).at_=0): ∀k,k<=m->TkInv n m E g.O L g (tickK n E L g k).1 (tickK n E L g k).2
  |0,_=>TkInv.start h hF h0
  | k + 1, hk => by
    have ih:=tick_upto h hF h0 k (by omega)
    refine TkInv.pushes (i:=k) (by omega) h.n64 ih (fun j hj=>(h.dq j hj).top) ?_ fun y hy=> ?_
    · unfold mineG
      split
      · exact(List.nodup_range.filter _).filter _
      · exact List.nodup_nil
    · obtain⟨a,b,d,e⟩:=mem_mine.mp hy;exact⟨b.1,d,fun q=>q _ b.2 rfl (by rw[a.2];decide),e⟩
theorem tickK_sub(k:Nat): ∀j,k<=j-> ∀y∈(tickK n E L g k).2,y∈(tickK n E L g j).2
  | 0, h, y, hy => by
    obtain rfl:k=0:=by omega
    exact hy
  | j + 1, h, y, hy => by
    by_cases e:k=j+1
    · subst e;exact hy
    · exact List.mem_append_left _ (tickK_sub k j (by omega) y hy)
theorem GOk.tick(h:GOk n m E L g)(hF:Fits n E)(h0: ∀c,c<m->(g.tk c).at_=0):GOk n m E (leftT g.O L) (tickG n m E L g)/\(∀c,c<m->((tickG n m E L g).tk c).at_=0):=by
 have I:=tick_upto h hF h0 m (Nat.le_refl _);obtain⟨⟨eT,etk,efr,eO⟩,rl,lo,once,few⟩:=I;have eT':(tickG n m E L g).T=g.T:=eT;have etk':(tickG n m E L g).tk=g.tk:=etk;have efr':(tickG n m E L g).fr=g.fr:=efr;have eO':(tickG n m E L g).O=onT g.O L:=eO;have how: ∀j,owG (tickG n m E L g) j=owG g j:=fun j=>by unfold owG;rw[etk',efr']
 have hat: ∀j,j<m->(owG g j).at_=0:=fun j hj=>by
  unfold owG
  split
  ·exact h0 j hj
  ·rfl
 have hv: ∀j,j<m->virG (tickG n m E L g) j=(tickG n m E L g).B j:=fun j hj=>by unfold virG;rw[how];exact if_pos (hat j hj)
 have hall: ∀x:Nat,x<n->ReadyC E (onT g.O L) (leftT g.O L) x->OverC E L (x:Int)\/x∈(tickK n E L g m).2:=fun x hx hr=>by
  by_cases hov:OverC E L (x:Int)
  ·exact .inl hov
  ·right
   obtain⟨e,he,e2,hp⟩: ∃e∈E,e.2=(x:Int)/\0<leftC L e.1:=by
    apply Classical.byContradiction
    intro q;exact hov fun e he e2 hp=>q ⟨e,he,e2,hp⟩
   obtain⟨p1,p2,_,_⟩:=hF e he;obtain⟨p,hpn⟩: ∃p:Nat,e.1=p:=⟨e.1.toNat,by omega⟩
   have hl:=leftT_at (O:=g.O) (L:=L) (x:=p) (by rw[h.crew.ln];omega)
   have hz:=hr.2.2 e he e2;rw[hpn]at hz hp;have hpO:(p:Int)∈g.O:=Classical.byContradiction fun q=>by
    rw[if_neg q]at hl;omega
   rw[if_pos hpO]at hl;obtain⟨k,hk,hek⟩:=List.getElem_of_mem hpO;have hkm:k<m:=by rw[<-h.ol];exact hk
   have hgk:g.O.getD k 0=(p:Int):=by rw[List.getD_eq_getElem?_getD,List.getElem?_eq_getElem hk];exact hek
   by_cases hD:x∈(tickK n E L g k).2
   ·exact tickK_sub k m (by omega) x hD
   ·refine tickK_sub (k + 1) m (by omega) x (List.mem_append_right _ (mem_mine.mpr ⟨⟨by rw [hgk]; omega,by rw [hgk]; omega⟩,⟨hx,?_⟩,hr,hD⟩))
    rw[hgk,<-hpn,<-e2];exact he
 have hfew:sumN (fun j=>((tickG n m E L g).B j).toNat) m<=sumN (fun x=>if OverC E (leftT g.O L) (x:Int)then 1 else 0) n:=by
  refine Nat.le_trans few (sumN_le fun x hx=> ?_)
  by_cases hq:OverC E (leftT g.O L) (x:Int)
  ·rw[if_pos hq];split<;>omega
  ·rw [if_neg hq,if_neg]
   ·exact Nat.le_refl _
   ·rintro (q | q)
    ·exact hq (q.mono hF fun m hm=>leftT_le (by rw[h.crew.ln];exact hm))
    ·exact hq q.1
 have h64: ∀j,j<m->(tickG n m E L g).B j<=64:=fun j hj=>by
  have h1:=sumN_le_one (f:=fun j=>((tickG n m E L g).B j).toNat) hj
  have h2:sumN (fun x=>if OverC E (leftT g.O L) (x:Int)then 1 else 0) n<=sumN (fun _=>1) n:=sumN_le fun x _=>by split<;>omega
  rw[sumN_const]at h2;have:=h.n64;omega
 refine⟨⟨h.m1,h.n64,by rw[eO'];exact h.crew.tick hF,by rw[eO',onT_len];exact h.ol,by rw[efr'];exact h.fr,rl,fun j hj=> ?_,fun c hc hf=> ?_,fun c hc hb=> ?_,fun x=> ?_,?_⟩,fun c hc=>by rw[etk'];exact h0 c hc⟩
 ·rw [how,eT']
  have hd:=h.dq j hj;have hv1:virD ((tickG n m E L g).B j) (owG g j)=(tickG n m E L g).B j:=if_pos (hat j hj);have hlo:=lo j hj;rw[eT]at hlo;exact⟨⟨hd.own.1,hd.own.2.1,hd.own.2.2.1,.inl (hat j hj)⟩,hd.top,by rw[hv1];exact hlo,by rw[hv1];exact h64 j hj⟩
 ·rw [efr'] at hf
  obtain⟨t1,t2,t3,t4,tb,t5,t6⟩:=h.th c hc hf;have ha:=h0 c hc;rw[etk'];exact⟨t1,t2,t3,fun q=>absurd q (by omega),tb,fun q=>absurd q (by omega),fun q=>absurd q (by omega)⟩
 ·rw [efr',etk']
  refine h.busy c hc fun q=> ?_
  rw[eO',onT_at (by rw[h.ol];exact hc),q,if_neg (fun r=>r.1 rfl)]at hb
  exact hb rfl
 ·have h1: sumN (fun j => lftG (tickG n m E L g) j x) m = sumN (fun j => (itemsD ((tickG n m E L g).R j) ((tickG n m E L g).T j) ((tickG n m E L g).B j)).count x) m:=sumN_congr fun j hj => by
   unfold lftG lftD handD virD;rw[how,if_neg (by rw[hat j hj];decide),if_pos (hat j hj),List.count_nil,Nat.zero_add]
  rw[h1,eO'];refine(once x).trans ?_
  by_cases hx:0<=x/\x<n
  ·by_cases hq: ReadyC E (onT g.O L) (leftT g.O L) x.toNat
   ·have h2:=hall x.toNat (by omega) hq
    rw[show((x.toNat:Nat):Int)=x by omega]at h2
    rw[if_pos ⟨hx,hq,h2⟩,if_pos ⟨hx,hq⟩]
   ·rw[if_neg (fun q=>hq q.2.1),if_neg (fun q=>hq q.2)]
  ·rw[if_neg (fun q=>hx q.1),if_neg (fun q=>hx q.1)]
 ·refine Nat.le_trans (Nat.le_of_eq ?_) hfew
  exact sumN_congr fun j hj=>by rw[hv j hj]
end
def emptyG(m:Nat):Gng:={R:=fun _=>List.replicate 64 0,T:=fun _=>0,B:=fun _=>0,tk:=fun _=>newTk false,fr:=fun _=>0,O:=List.replicate m (-1)}
def dealG(m:Nat)(g:Gng):List Nat->Gng
 | []=>g
 |x::r=>dealG m (pushG g (x%m) (x:Int)) r
def newG(n m:Nat)(E:List (Int×Int))(need:List Int):Gng:=dealG m (emptyG m) (readyU n E (List.replicate m (-1)) need)
structure DealInv(n m:Nat)(g:Gng)(D:List Nat):Prop where
 same:(∀j,g.T j=0)/\(∀j,g.tk j=newTk false)/\(∀j,g.fr j=0)/\g.O=List.replicate m (-1)
 rl: ∀j,j<m->(g.R j).length=64
 lo: ∀j,j<m->0<=g.B j
 once: ∀x:Int,sumN (fun j=>(itemsD (g.R j) 0 (g.B j)).count x) m=if 0<=x/\x.toNat∈D then 1 else 0
 few:sumN (fun j=>(g.B j).toNat) m=D.length
 nod:D.Nodup
 lt: ∀y∈D,y<n
section
variable {n m: Nat} {E: List (Int × Int)} {g: Gng}
theorem sumN_filter(p:Nat->Bool): ∀n:Nat,sumN (fun x=>if p x then 1 else 0) n=((List.range n).filter p).length
  |0=>rfl
  | n + 1 => by
    show sumN (fun x=>if p x then 1 else 0) n+(if p n then 1 else 0)=_
    rw[List.range_succ,List.filter_append,List.length_append,sumN_filter p n];cases h:p n<;>simp[h]
theorem nodup_few{D:List Nat}(h:D.Nodup)(hn: ∀y∈D,y<n):D.length<=n:=length_below n D h hn
theorem DealInv.start(m1:1<=m):DealInv n m (emptyG m) []:=by
 refine⟨⟨fun _=>rfl,fun _=>rfl,fun _=>rfl,rfl⟩,fun _ _=>List.length_replicate,fun _ _=>Int.le_refl _,fun x=> ?_,?_,List.nodup_nil,fun y hy=>absurd hy (by simp)⟩
 ·rw [if_neg (fun q => absurd q.2 (by simp)),<- sumN_zero m]
  refine sumN_congr fun j _=> ?_
  show(itemsD _ 0 0).count x=0
  rw[itemsD_empty (Int.le_refl _)];rfl
 ·show sumN (fun _ => (0: Int).toNat) m = 0
  exact sumN_zero m
theorem DealInv.push{D:List Nat}(h:DealInv n m g D)(m1:1<=m)(n64:n<=64){y:Nat}(hy:y<n)(hD:y∉D){i:Nat}(hi:i<m):(g.B i).toNat<64/\DealInv n m (pushG g i (y:Int)) (D++ [y]):=by
 have hnod:(D++ [y]).Nodup:=List.nodup_append.mpr ⟨h.nod,List.nodup_cons.mpr ⟨by simp,List.nodup_nil⟩,fun a ha b hb=>by
  rw[List.mem_singleton]at hb;rintro rfl;exact hD (hb▸ha)⟩
 have hlt: ∀z∈D++ [y],z<n:=fun z hz=>by
  rw[List.mem_append,List.mem_singleton]at hz;rcases hz with hz|rfl
  ·exact h.lt z hz
  ·exact hy
 have hln:=nodup_few hnod hlt;rw[List.length_append]at hln;have h1:=sumN_le_one (f:=fun j=>(g.B j).toNat) hi
 have h2:=h.few;have hroom:(g.B i).toNat<64:=by
  have: [y].length=1:=rfl;omega
 have hlo:=h.lo i hi;have hlen:=h.rl i hi;have hit:=itemsD_push (R:=g.R i) (T:=0) (B:=g.B i) (v:=(y:Int)) (Int.le_refl _) hlo (by rw[hlen];omega)
 refine⟨hroom,h.same,fun j hj=> ?_,fun j hj=> ?_,fun x=> ?_,?_,hnod,hlt⟩
 ·show (updG g.R i _ j).length = 64
  by_cases hji:j=i
  ·rw[hji,updG_at,List.length_set];exact hlen
  ·rw[updG_ne _ _ hji];exact h.rl j hj
 ·show 0 <= updG g.B i (g.B i + 1) j
  by_cases hji:j=i
  ·rw[hji,updG_at];omega
  ·rw[updG_ne _ _ hji];exact h.lo j hj
 ·have h3:=sumN_upd (f:=fun j => (itemsD (g.R j) 0 (g.B j)).count x) (f':=fun j => (itemsD (updG g.R i ((g.R i).set ((g.B i).toNat % (g.R i).length) (y: Int)) j) 0 (updG g.B i (g.B i + 1) j)).count x) hi fun k _ hk => by
   rw[updG_ne _ _ hk,updG_ne _ _ hk]
  simp only[updG_at]at h3;rw[hit,count_one]at h3;show sumN (fun j=>(itemsD (updG g.R i ((g.R i).set ((g.B i).toNat%(g.R i).length) (y:Int)) j) 0 (updG g.B i (g.B i+1) j)).count x) m=_
  have h4:=h.once x
  by_cases hyx:(y:Int)=x
  ·subst hyx
   rw[if_pos rfl]at h3;rw[if_neg (fun q=>hD (by have:=q.2;rw[Int.toNat_natCast]at this;exact this))]at h4
   rw[if_pos ⟨by omega,by rw[Int.toNat_natCast];simp⟩]
   omega
  ·rw [if_neg hyx] at h3
   have h5:sumN (fun j=>(itemsD (updG g.R i ((g.R i).set ((g.B i).toNat%(g.R i).length) (y:Int)) j) 0 (updG g.B i (g.B i+1) j)).count x) m=sumN (fun j=>(itemsD (g.R j) 0 (g.B j)).count x) m:=by omega
   rw[h5,h4]
   by_cases hx:0<=x
   ·have hm: x.toNat ∈ D ++ [y] ↔ x.toNat ∈ D:=by
     rw[List.mem_append,List.mem_singleton];exact⟨fun q=>q.elim id fun q=>by omega,.inl⟩
    simp only[hm]
   ·rw[if_neg (fun q=>hx q.1),if_neg (fun q=>hx q.1)]
 ·have h3:=sumN_upd (f:=fun j => (g.B j).toNat) (f':=fun j => (updG g.B i (g.B i + 1) j).toNat) hi fun k _ hk => by rw [updG_ne _ _ hk]
  simp only[updG_at]at h3;show sumN (fun j=>(updG g.B i (g.B i+1) j).toNat) m=_
  rw[List.length_append];show _=D.length+1
  have h8:(g.B i+1).toNat=(g.B i).toNat+1:=by omega
  omega
theorem DealInv.deal(m1:1<=m)(n64:n<=64): ∀{l D:List Nat} {g:Gng},DealInv n m g D->l.Nodup->(∀y∈l,y<n/\y∉D)->DealInv n m (dealG m g l) (D++l)
  | [],D,g,h,_,_=>by rw[List.append_nil];exact h
  | y :: r, D, g, h, hnd, hl => by
    obtain⟨a,b⟩:=hl y List.mem_cons_self;have h1:=(h.push m1 n64 a b (i:=y%m) (Nat.mod_lt _ (by omega))).2
    have h2:=DealInv.deal m1 n64 h1 (List.nodup_cons.mp hnd).2 fun z hz=>by
      obtain⟨q1,q2⟩:=hl z (List.mem_cons_of_mem _ hz);refine⟨q1,fun q=> ?_⟩
      rw[List.mem_append,List.mem_singleton]at q;rcases q with q|rfl
      · exact q2 q
      · exact(List.nodup_cons.mp hnd).1 hz
    rw[List.append_assoc]at h2;exact h2
theorem GOk.new{need:List Int}(hn: ∀z∈need,1<=z/\z<=1000)(m1:1<=m)(m8:m<=8)(hl:need.length=n)(n64:n<=64):
  GOk n m E need (newG n m E need)/\(∀c,c<m->((newG n m E need).tk c).at_=0):=by
 have I:DealInv n m (newG n m E need) ([]++readyU n E (List.replicate m (-1)) need):=DealInv.deal m1 n64 (DealInv.start m1) (List.nodup_range.filter _) fun y hy=>⟨(mem_readyU.mp hy).1,by simp⟩
 rw[List.nil_append]at I;obtain⟨⟨eT,etk,efr,eO⟩,rl,lo,once,few,_,_⟩:=I;obtain⟨g,hg⟩: ∃g,g=newG n m E need:=⟨_,rfl⟩;rw[<-hg]at eT etk efr eO rl lo once few⊢;have how: ∀j,owG g j=newTk false:=fun j=>by unfold owG;rw[if_pos (efr j),etk]
 have hv: ∀j,virG g j=g.B j:=fun j=>by unfold virG;rw[how];exact if_pos rfl
 have hfew:sumN (fun j=>(g.B j).toNat) m<=sumN (fun x=>if OverC E need (x:Int)then 1 else 0) n:=by
  rw[few];unfold readyU;rw[<-sumN_filter];refine sumN_le fun x hx=> ?_
  by_cases hr:ReadyC E (List.replicate m (-1)) need x
  ·rw[if_pos (decide_eq_true hr),if_pos hr.2.2];exact Nat.le_refl _
  ·rw[if_neg (by simpa using hr)];exact Nat.zero_le _
 have h64: ∀j,j<m->g.B j<=64:=fun j hj=>by
  have h1:=sumN_le_one (f:=fun j=>(g.B j).toNat) hj
  have h2:sumN (fun x=>if OverC E need (x:Int)then 1 else 0) n<=sumN (fun _=>1) n:=sumN_le fun x _=>by split<;>omega
  rw[sumN_const]at h2;omega
 refine⟨⟨m1,n64,by rw[eO];exact new_ok hn m1 m8 hl,by rw[eO,List.length_replicate],fun c hc=>by rw[efr];omega,rl,fun j hj=> ?_,fun c hc hf=>absurd (efr c) hf,fun c hc hb=>⟨efr c,etk c⟩,fun x=> ?_,?_⟩,fun c hc=>by rw[etk];rfl⟩
 ·rw [how,eT]
  have hv1:virD (g.B j) (newTk false)=g.B j:=if_pos rfl;exact⟨⟨rfl,rfl,⟨by decide,by decide⟩,.inl rfl⟩,Int.le_refl _,by rw[hv1];exact lo j hj,by rw[hv1];exact h64 j hj⟩
 ·have h1: sumN (fun j => lftG g j x) m = sumN (fun j => (itemsD (g.R j) 0 (g.B j)).count x) m:=sumN_congr fun j hj => by
   unfold lftG lftD;rw[how,eT,show handD (newTk false)= []from rfl,show virD (g.B j) (newTk false)=g.B j from if_pos rfl,List.count_nil,Nat.zero_add]
  rw[h1,once x,eO]
  by_cases hx:0<=x/\x<n
  ·by_cases hq: ReadyC E (List.replicate m (-1)) need x.toNat
   ·rw[if_pos ⟨hx.1,mem_readyU.mpr ⟨by omega,hq⟩⟩,if_pos ⟨hx,hq⟩]
   ·rw[if_neg (fun q=>hq (mem_readyU.mp q.2).2),if_neg (fun q=>hq q.2)]
  ·rw[if_neg (fun q=>hx ⟨q.1,by have:=(mem_readyU.mp q.2).1;omega⟩),if_neg (fun q=>hx q.1)]
 ·refine Nat.le_trans (Nat.le_of_eq ?_) hfew
  exact sumN_congr fun j hj=>by rw[hv j]
end
end Go.Proofs.YtngdbbligebcbabGreatDoor
