import Derived.Test.YtlfekmbalgkmeaaGreatDoorZM10
import Derived.BigQuiet
import Derived.Test.YtlfekmbalgkmeaaGreatDoorZM2
import Derived.Test.YtlfekmbalgkmeaaGreatDoorZM6
import Derived.Lib.Hide
import Derived.Deep.RegionWith
import Derived.Test.YtlfekmbalgkmeaaGreatDoorZM5
set_option linter.unusedSimpArgs false
set_option linter.unnecessarySimpa false
set_option linter.unusedVariables false
set_option maxRecDepth 100000
set_option maxHeartbeats 32000000
namespace Go.Proofs.YtlfekmbalgkmeaaGreatDoor
open Go Go.RowKit
def BestO(t:Nat->Int)(out:List Nat)(i:Nat)(z:Int):Prop:=(z= -1/\ ∀y,y<i->y∈out)\/ ∃b:Nat,z=(b:Int)/\b<i/\b∉out/\ ∀y,y<i->y∉out->y=b\/LtO t b y
theorem BestO.skip{t:Nat->Int}{out:List Nat}{i:Nat}{z:Int}(h:BestO t out i z)(hi:i∈out):BestO t out (i+1) z:=by
 rcases h with⟨h1,h2⟩|⟨b,h1,h2,h3,h4⟩
 ·exact .inl ⟨h1,fun y hy=>if e:y=i then e▸hi else h2 y (by omega)⟩
 ·exact .inr ⟨b,h1,by omega,h3,fun y hy hn=>h4 y (by
   by_cases e:y=i
   ·subst e;exact absurd hi hn
   ·omega) hn⟩
theorem BestO.first{t:Nat->Int}{out:List Nat}{i:Nat}{z:Int}(h:BestO t out i z)(hz:z<0)(hi:i∉out):BestO t out (i+1) (i:Int):=by
 rcases h with⟨h1,h2⟩|⟨b,h1,_⟩
 ·exact .inr ⟨i,rfl,by omega,hi,fun y hy hn=> .inl (by
   by_cases e:y=i
   ·exact e
   ·exact absurd (h2 y (by omega)) hn)⟩
 ·omega
theorem LtO.trans'{t:Nat->Int}{a b c:Nat}(h1:LtO t a b)(h2:LtO t b c):LtO t a c:=by
 unfold LtO at *;omega
theorem BestO.next{t:Nat->Int}{out:List Nat}{i b:Nat}(h:BestO t out i (b:Int))(hi:i∉out):b<i/\(t b<t i->BestO t out (i+1) (i:Int))/\(¬t b<t i->BestO t out (i+1) (b:Int)):=by
 rcases h with⟨h1,h2⟩|⟨b',h1,h2,h3,h4⟩
 ·omega
 ·obtain rfl: b = b':=by omega
  refine⟨h2,fun hlt=> .inr ⟨i,rfl,by omega,hi,fun y hy hn=> ?_⟩,fun hlt=> .inr ⟨b,rfl,by omega,h3,fun y hy hn=> ?_⟩⟩
  ·by_cases e: y = i
   ·exact .inl e
   ·right
    have hib:LtO t i b:=.inl hlt;rcases h4 y (by omega) hn with e|z
    ·rw[e];exact hib
    ·exact hib.trans' z
  ·by_cases e: y = i
   ·right
    subst e;unfold LtO;omega
   ·exact h4 y (by omega) hn
theorem BestO.done{t:Nat->Int}{n k:Nat}{z:Int}(h:BestO t ((ordO t n).take k) n z)(hk:k<n): ∃b:Nat,z=(b:Int)/\b<n/\(ordO t n)[k]? =some b:=by
 have hl:k<(ordO t n).length:=by rw[ordO_len];exact hk
 obtain⟨a,ha⟩: ∃a,(ordO t n)[k]? =some a:=⟨_,List.getElem?_eq_getElem hl⟩
 have han:a<n:=ordO_mem.mp (List.mem_of_getElem? ha)
 have hcut:=list_cut ha;have hnd:=ordO_nodup (t:=t) n;have hs:=ordO_sorted (t:=t) n;rw[hcut]at hnd hs;have hna:a∉(ordO t n).take k:=fun q=>by
  have:=(List.nodup_append.mp hnd).2.2 a q a (by simp)
  exact this rfl
 rcases h with⟨h1,h2⟩|⟨b,h1,h2,h3,h4⟩
 ·exact absurd (h2 a han) hna
 ·refine ⟨b,h1,h2,?_⟩
  rcases h4 a han hna with e|hlt
  ·rw[<-e];exact ha
  ·exfalso
   have hb:b∈ordO t n:=ordO_mem.mpr h2;rw[hcut]at hb;rcases List.mem_append.mp hb with q|q
   ·exact h3 q
   ·rcases List.mem_cons.mp q with q | q
    ·subst q;unfold LtO at hlt;omega
    ·have:=(List.pairwise_cons.mp (List.pairwise_append.mp hs).2.1).1 b q
     unfold LtO at this hlt;omega
section
variable {A: Option Addr} {n c: Nat} {es: List Shp}
theorem rorder16_any(w:World)(hn:es.length=n)(hl:n<=20)(hS:Shps w w.heap.size A es):
    Calls Tryz.prog 69 #[.slice A n c] w fun e w'=> ∃F d,e= .returned (.slice F n d)/\OwnI w' w.heap.size (.slice F n d) (nums (ordP es))/\Below w.heap.size w w':=by
  obtain⟨t,ht⟩: ∃t,t=totE es:=⟨_,rfl⟩;have HT:=Lib.hid (fun(k:Nat) (s:Shp) (h:es[k]? =some s)=>(show t k=s.t by rw[ht];exact totE_at h))
  have HS:=Lib.hid (fun W (b:Below w.heap.size w W)=>hS.via b)
  have HN:=Lib.hid hn;have HE:=Lib.hid (show ordP es=ordO t n by unfold ordP;rw[ht,hn])
  rw[HE.out];have be:Below w.heap.size w (w.alloc (.cells #[] 3)):=below_alloc _;have HB0:=Lib.hid be;have HO0:=Lib.hid (show OwnI (w.alloc (.cells #[] 3)) w.heap.size (.slice (some ⟨w.heap.size,0,none⟩) 0 0) (nums ((ordO t n).take 0))from⟨rfl, .inr ⟨w.heap.size,0, #[],rfl,Nat.le_refl _,heap_alloc_new w _,Nat.le_refl _,by simp[maxLen],rfl,rfl⟩⟩)
  clear hn hS ht be;go_enter Tryz.func69,Tryz.ntmps69;go_wp2;go_loopw [3,4] (fun ov kv wr=> ∃(k d:Nat) (F:Option Addr),k<=n/\kv= .int .i64 k/\ov= .slice F k d/\Hid (OwnI wr w.heap.size (.slice F k d) (nums ((ordO t n).take k)))/\Hid (Below w.heap.size w wr)) (fun _ v _=>n - (intOf v).toNat)
  case atStart=>exact⟨0,0,_,Nat.zero_le _,rfl,rfl,HO0,HB0⟩
  case round=>
    obtain⟨k,d,F,hk,rfl,rfl,HO,HB⟩:=hrel;clear HO0 HB0
    by_cases hlt:k<n
    · go_wp2;go_loopw [5,6] (fun bv iv wx=> ∃(i:Nat) (z:Int),i<=n/\iv= .int .i64 i/\bv= .int .i64 z/\Hid (BestO t ((ordO t n).take k) i z)/\Hid (OwnI wx w.heap.size (.slice F k d) (nums ((ordO t n).take k)))/\Hid (Below w.heap.size w wx)) (fun _ v _=>n - (intOf v).toNat)
      case atStart=>exact⟨0, -1,Nat.zero_le _,rfl,rfl,Lib.hid (.inl ⟨rfl,fun y hy=>absurd hy (Nat.not_lt_zero _)⟩),HO,HB⟩
      case round=>
        clear HO HB;obtain⟨i,z,hi,rfl,rfl,HZ,HO,HB⟩:=hrel
        by_cases hin:i<n
        · obtain⟨bk,off,st,sl,sm,sd,sp,rfl,hbg,hek,c0,c1,c2,c3,c4⟩:=(HS.out _ HB.out).at_ (k:=i) (by rw[HN.out];exact hin)
          have hti:=HT.out _ _ hek;dsimp only at hti;obtain⟨rr,hrr⟩: ∃y,y=decide ((i:Int)∈nums ((ordO t n).take k)):=⟨_,rfl⟩;have hlen:(nums ((ordO t n).take k)).length=k:=by
            unfold nums;rw[List.length_map,List.length_take,ordO_len];omega
          have CH:=Lib.hid (fun N=>(has_any F d (nums ((ordO t n).take k)) (i:Int) (wr.drewN N) k hlen (by omega) ((HO.out.below (below_drewN (Below.refl _ _) N)).ints)).mono fun e w' (h:e= .returned (.bool (decide ((i:Int)∈nums ((ordO t n).take k))))/\wr.drewN N=w')=>(show e= .returned (.bool rr)/\w'=wr.drewN N from⟨by rw[h.1,<-hrr],h.2.symm⟩))
          clear hek hbg c1 c2 c3 c4 hlen;cases rr with
          | true =>
            have HZ2:=Lib.hid (HZ.out.skip (mem_nums.mp (of_decide_eq_true hrr.symm)));clear hrr c0 hti;go_wp2
            go_quiet (first|(go_at_call 26;exact Calls.quiet_of_same (CH.out _)))
            have HB3:=Lib.hid (HB.out.trans ((below_drewN (Below.refl _ _) nq).mono HB.out.size));have HO3:=Lib.hid (HO.out.below (below_drewN (Below.refl _ _) nq));clear CH;go_wp2;go_roundw
            case rel=>exact⟨i+1,z,by omega,by go_num,rfl,HZ2,HO3,HB3⟩
            case measure=>simp[intOf];omega
          | false =>
            have hnot:i∉(ordO t n).take k:=fun q=>of_decide_eq_false hrr.symm (mem_nums.mpr q)
            clear hrr
            by_cases hz:z<0
            · have e1:decide (z<0)=true:=decide_eq_true hz;have HZ2:=Lib.hid (HZ.out.first hz hnot);clear hz hnot c0 hti;go_wp2
              go_quiet (first|(go_at_call 26;exact Calls.quiet_of_same (CH.out _)))
              have HB3:=Lib.hid (HB.out.trans ((below_drewN (Below.refl _ _) nq).mono HB.out.size));have HO3:=Lib.hid (HO.out.below (below_drewN (Below.refl _ _) nq));clear CH e1;go_wp2;go_roundw
              case rel=>exact⟨i+1,(i:Int),by omega,by go_num,rfl,HZ2,HO3,HB3⟩
              case measure=>simp[intOf];omega
            · obtain⟨b,rfl⟩: ∃b:Nat,z=(b:Int):=⟨z.toNat,by omega⟩
              have e1:decide ((b:Int)<0)=false:=decide_eq_false hz;obtain⟨hbi,hy,hno⟩:=HZ.out.next hnot;have hbn:b<n:=by omega
              obtain⟨bk2,off2,ut,ul,um,ud,up,hA2,hbg2,hek2,x0,x1,x2,x3,x4⟩:=(HS.out _ HB.out).at_ (k:=b) (by rw[HN.out];exact hbn)
              injection hA2 with hA2;injection hA2 with q1 q2;subst q1 q2;have htb:=HT.out _ _ hek2;dsimp only at htb;rw[hti,htb]at hy hno;clear hek2 hbg2 x1 x2 x3 x4 hz hnot hti htb hbi
              by_cases hg:st>ut
              · have e2:decide (st>ut)=true:=decide_eq_true hg;have HZ2:=Lib.hid (hy hg);clear hy hno hg;go_wp2
                go_quiet (first|(go_at_call 26;exact Calls.quiet_of_same (CH.out _)))
                have HB3:=Lib.hid (HB.out.trans ((below_drewN (Below.refl _ _) nq).mono HB.out.size));have HO3:=Lib.hid (HO.out.below (below_drewN (Below.refl _ _) nq));clear CH e1 e2 c0 x0;go_wp2;go_roundw
                case rel=>exact⟨i+1,(i:Int),by omega,by go_num,rfl,HZ2,HO3,HB3⟩
                case measure=>simp[intOf];omega
              · have e2:decide (st>ut)=false:=decide_eq_false hg;have HZ2:=Lib.hid (hno hg);clear hy hno hg;go_wp2
                go_quiet (first|(go_at_call 26;exact Calls.quiet_of_same (CH.out _)))
                have HB3:=Lib.hid (HB.out.trans ((below_drewN (Below.refl _ _) nq).mono HB.out.size));have HO3:=Lib.hid (HO.out.below (below_drewN (Below.refl _ _) nq));clear CH e1 e2 c0 x0;go_wp2;go_roundw
                case rel=>exact⟨i+1,(b:Int),by omega,by go_num,rfl,HZ2,HO3,HB3⟩
                case measure=>simp[intOf];omega
        · obtain rfl:n=i:=by omega
          obtain⟨b,rfl,hbn,hob⟩:=HZ.out.done hlt;have hlen:(nums ((ordO t n).take k)).length=k:=by
            unfold nums;rw[List.length_map,List.length_take,ordO_len];omega
          have HLN:=Lib.hid hlen;have hnx:nums ((ordO t n).take (k+1))=nums ((ordO t n).take k)++ [(b:Int)]:=by rw[(show(ordO t n).take (k+1)=(ordO t n).take k++ [b] by rw[List.take_add_one,hob];rfl),nums_snoc]
          have HNX:=Lib.hid hnx;clear hi hin hlen hnx hob hbn
          go_wp2_with(at_builtin;refine wpList_push rfl _ _ rfl wr w.heap.size _ (nums ((ordO t n).take k)) (b:Int) k HLN.out (by omega) HO.out HB.out.size rfl rfl ?_;intro A' c' w7 hO7 hb7;have HO7:=Lib.hid hO7;have HB7:=Lib.hid (HB.out.trans hb7);clear hO7 hb7)
          go_roundw
          case rel=>exact⟨k+1,c',A',by omega,by go_num,rfl,Lib.hid (by rw[HNX.out];exact HO7.out),HB7⟩
          case measure=>simp[intOf];omega
    · obtain rfl:n=k:=by omega
      have HQ:=Lib.hid (show(ordO t n).take n=ordO t n from List.take_of_length_le (by rw[ordO_len];exact Nat.le_refl _))
      rw[HQ.out]at HO;clear hk hlt;go_wp2;go_ret;exact⟨F,d,rfl,HO.out,HB.out⟩
end
end Go.Proofs.YtlfekmbalgkmeaaGreatDoor
namespace Go.Proofs.YtlfekmbalgkmeaaGreatDoor
open Go.RowKit
theorem int_info1: ∃i,Tryz.prog.info? 3=some i/\i.zero=some (.int .i64 0)/\i.size=1/\i.bytes=8:=by
  have h:=int_cell_info;cases hi:Tryz.prog.info? 3 with
  |none=>rw[hi]at h;cases h
  | some i =>
    rw[hi]at h;simp at h;exact⟨i,rfl,h.1,h.2.1,h.2.2⟩
theorem new_ints8(W:World)(ty:TypeId)(A:Option Addr)(c:Nat)(zs:List Int)(hl:zs.length<=1000)(hZ:Ints W W.heap.size A zs)(hA:A=none->zs.length=0/\c=0):
  ∃v' w',(Builtin.append_ #[40,40] ty #[.slice (some ⟨W.heap.size,0,none⟩) 0 0,.slice A zs.length c]).run Tryz.prog (W.alloc (.cells #[] 3))= .ok v' w'/\OwnI w' W.heap.size v' zs/\Below W.heap.size W w':=by
 obtain⟨i0,hi,hz0,hz1,hz2⟩:=int_info1;obtain⟨v',w',hr,ho,hb⟩:=fresh_append (P:=Tryz.prog) (W.alloc (.cells #[] 3)) 40 ty 3 i0 (.int .i64 0) 1 8 Tryz.underlying40 hi hz0 hz1 hz2 rfl (by decide) W.heap.size W.heap.size (heap_alloc_new W _) (Nat.le_refl _) (by simp) A zs.length c (zs.map (Value.int .i64)) (by simp) hA (fun ad e=>by subst e;exact(hZ.below (below_alloc _)).cells) (oneCell_ints zs) (by unfold maxLen;omega) (by omega)
 exact⟨v',w',hr,ho,(below_alloc _).trans (hb.mono (by simp))⟩
theorem take_snoc'{α:Type}{l:List α}{j:Nat}{a:α}(h:l[j]? =some a):l.take (j+1)=l.take j++ [a]:=by
 rw[List.take_add_one,h];rfl
theorem take_ext{α:Type}{xs ys:List α}(h:xs.length=ys.length)(e:xs.take xs.length=ys.take xs.length):xs=ys:=by
 rw[List.take_length,h,List.take_length]at e;exact e
theorem take_next{α:Type}{xs ys:List α}{j:Nat}{a:α}(e:xs.take j=ys.take j)(h1:xs[j]? =some a)(h2:ys[j]? =some a):xs.take (j+1)=ys.take (j+1):=by
 rw[take_snoc' h1,take_snoc' h2,e]
theorem take_part{α:Type}{xs ys:List α}{j:Nat}{a b:α}(h1:xs[j]? =some a)(h2:ys[j]? =some b)(hne:a≠b):xs≠ys:=by
 rintro rfl;rw[h1]at h2;exact hne (Option.some.inj h2)
theorem drews(w:World)(N n:Nat):(w.drewN N).drewN n=w.drewN (N+n):=by simp
theorem ints_any(B:Nat)(A1 A2:Option Addr)(c1 c2:Nat)(xs ys:List Int)(w:World)(hx:xs.length<=1000)(hy:ys.length<=1000)(h1:Ints w B A1 xs)(h2:Ints w B A2 ys):
  Calls Tryz.prog 21 #[.slice A1 xs.length c1,.slice A2 ys.length c2] w fun e w'=>e= .returned (.bool (decide (xs=ys)))/\ ∃N,w'=w.drewN N:=by
 obtain⟨n,hn⟩: ∃n,n=xs.length:=⟨_,rfl⟩;obtain⟨m,hm⟩: ∃m,m=ys.length:=⟨_,rfl⟩;rw[<-hn,<-hm];rw[<-hn]at hx;rw[<-hm]at hy;have HN:=Lib.hid hn;have HM:=Lib.hid hm;have H1:=Lib.hid h1;have H2:=Lib.hid h2;clear hn hm h1 h2
 by_cases hnm:n=m
 ·subst hnm
  go_enter Tryz.func21,Tryz.ntmps21;go_wp2;go_loopw [5] (fun i wr=> ∃j N:Nat,j<=n/\i= .int .i64 j/\Hid (xs.take j=ys.take j)/\wr=w.drewN N) (fun i _=>n - (intOf i).toNat)
  case atStart=>exact⟨0,0,Nat.zero_le _,rfl,Lib.hid rfl,rfl⟩
  case round=>
   obtain⟨j,N,hj,rfl,HT,rfl⟩:=hrel
   by_cases hlt:j<n
   ·obtain ⟨b1,o1,x,rfl,_,hx1,hc1⟩:=H1.out.at_ (k:=j) (by rw [<- HN.out]; exact hlt)
    obtain⟨b2,o2,y,rfl,_,hy1,hc2⟩:=H2.out.at_ (k:=j) (by rw[<-HM.out];exact hlt)
    have HX:=Lib.hid hx1;have HY:=Lib.hid hy1;clear hx1 hy1
    by_cases hxy:x=y
    ·subst hxy
     go_wp2
     go_quiet (fail)
     go_wp2;go_roundw
     case rel=>exact⟨j+1,_,by omega,by go_num,Lib.hid (take_next HT.out HX.out HY.out),rfl⟩
     case measure=>simp[intOf];omega
    ·have hb: (x != y) = true:=by simpa using hxy
     have HXY:=Lib.hid hxy;clear hxy;go_wp2
     go_quiet (fail)
     go_wp2;go_ret
     exact⟨by rw[decide_eq_false (take_part HX.out HY.out HXY.out)];rfl,_,drews w N _⟩
   ·obtain rfl: j = n:=by omega
    go_wp2;go_ret
    exact⟨by rw[decide_eq_true (take_ext (by rw[<-HN.out,<-HM.out]) (by rw[<-HN.out];exact HT.out))];rfl,_,rfl⟩
 ·have hb: ((n: Int) != (m: Int)) = true:=by simp; omega
  go_enter Tryz.func21,Tryz.ntmps21;go_wp2;go_ret;exact⟨by rw[decide_eq_false (fun e:xs=ys=>hnm (by rw[HN.out,HM.out,e]))];rfl,0,rfl⟩
end Go.Proofs.YtlfekmbalgkmeaaGreatDoor
namespace Go.Proofs.YtlfekmbalgkmeaaGreatDoor
open Go Go.RowKit
theorem fresh16(W:World)(A:Option Addr)(c n:Nat)(zs:List Int)(hn:zs.length=n)(hl:n<=1000)(hI:Ints W W.heap.size A zs)(hA:A=none->n=0/\c=0):
  ∃A' c' w',(Builtin.append_ #[40,40] 40 #[.slice (some ⟨W.heap.size,0,none⟩) 0 0,.slice A n c]).run Tryz.prog (W.alloc (.cells #[] 3))= .ok (.slice A' n c') w'/\OwnI w' W.heap.size (.slice A' n c') zs/\Below W.heap.size W w':=by
 subst hn;obtain⟨v',w',hr,hO,hB⟩:=new_ints8 W 40 A c zs hl hI hA;obtain⟨A',c',rfl,_⟩:=hO.slice;exact⟨A',c',w',hr,hO,hB⟩
theorem OwnI.non16{w:World}{base n c:Nat}{A:Option Addr}{zs:List Int}(h:OwnI w base (.slice A n c) zs):A=none->n=0/\c=0:=fun e=>by
 subst e;have hn:=h.len_eq;rcases h.2 with⟨e,h0⟩|⟨g',cap,cur,e,_⟩
 ·injection e with _ e2 e3
  exact⟨by omega,e3⟩
 ·injection e with e1 _ _;cases e1
theorem rints16(A1 A2:Option Addr)(n1 c1 n2 c2:Nat)(xs ys:List Int)(w:World)(h1:xs.length=n1)(h2:ys.length=n2)(hx:n1<=1000)(hy:n2<=1000)(i1:Ints w w.heap.size A1 xs)(i2:Ints w w.heap.size A2 ys):
  Calls Tryz.prog 21 #[.slice A1 n1 c1,.slice A2 n2 c2] w fun e w'=>e= .returned (.bool (decide (xs=ys)))/\Below w.heap.size w w':=by
 subst h1 h2;refine(ints_any w.heap.size A1 A2 c1 c2 xs ys w hx hy i1 i2).mono ?_
 rintro e w' ⟨rfl,N,rfl⟩;exact⟨rfl,below_drewN (Below.refl _ _) N⟩
section
variable {A P: Option Addr} {n c m d: Nat} {es: List Shp} {at_: List Int}
theorem ron16_any(k:Int)(w:World)(hn:es.length=n)(hl:n<=800)(hS:Shps w w.heap.size A es)(hm:at_.length=m)(hm2:m<=1000)(hP:Ints w w.heap.size P at_):
  Calls Tryz.prog 70 #[.slice A n c,.slice P m d,.int .i64 k] w fun e w'=> ∃A1 n1 c1,e= .returned (.slice A1 n1 c1)/\n1<=n/\(onP es at_ k).length=n1/\OwnS w' w.heap.size (.slice A1 n1 c1) (onP es at_ k)/\Below w.heap.size w w':=by
 have HS:=Lib.hid hS;have HP:=Lib.hid hP;obtain⟨q,hq⟩: ∃q,q=min n m:=⟨_,rfl⟩;have HE:Hid (onP (es.take q) (at_.take q) k=onP es at_ k):=Lib.hid (by rw[hq,<-hn,<-hm];exact onP_min es at_ k)
 have HN:=Lib.hid (show es.length=n/\at_.length=m/\q<=n/\q<=m from⟨hn,hm,by omega,by omega⟩)
 have hqs:q=n\/q=m:=by omega
 have HQ:=Lib.hid hqs;have HLe:=Lib.hid (onP_len es at_ k);have be:Below w.heap.size w (w.alloc (.cells #[] 44)):=below_alloc _;have HB0:=Lib.hid be;have HO0:=Lib.hid (show OwnS (w.alloc (.cells #[] 44)) w.heap.size (.slice (some ⟨w.heap.size,0,none⟩) 0 0) (onP (es.take 0) (at_.take 0) k)from⟨rfl,.inr ⟨w.heap.size,0,#[],rfl,Nat.le_refl _,heap_alloc_new w _,Nat.le_refl _,by simp[maxLen],rfl,rfl⟩⟩)
 have hq8:q<=800:=by omega
 clear hn hS hm hP hq hl hm2 be hqs;go_enter Tryz.func70,Tryz.ntmps70;go_wp2;go_loopw [7,8] (fun v i wr=> ∃(j len:Nat) (F:Option Addr) (f:Nat),j<=q/\len<=j/\i= .int .i64 j/\v= .slice F len f/\Hid (len=(onP (es.take j) (at_.take j) k).length)/\Hid (OwnS wr w.heap.size (.slice F len f) (onP (es.take j) (at_.take j) k))/\Hid (Below w.heap.size w wr)) (fun _ i _=>q - (intOf i).toNat)
 case atStart=>exact⟨0,0,_,0,Nat.zero_le _,Nat.le_refl _,rfl,rfl,Lib.hid (by simp[onP]),HO0,HB0⟩
 case round=>
  obtain⟨j,len,F,f,hj,hlj,rfl,rfl,HL,HO,HI⟩:=hrel;clear HO0 HB0
  by_cases hlt:j<q
  ·obtain ⟨bk,off,t,l,mm,dd,pp,rfl,hbg,hek,d1,d2,d3,d4,d5⟩:=(HS.out.below HI.out).at_ (k:=j) (by have:=HN.out; omega)
   obtain⟨b3,o3,x,rfl,hb3,hx,d6⟩:=(HP.out.below HI.out).at_ (k:=j) (by have:=HN.out;omega)
   have HSN:=Lib.hid (onP_snoc (c:=k) hek hx);have hjn:j<n:=by have:=HN.out;omega
   have hjm:j<m:=by have:=HN.out;omega
   clear hek hx
   by_cases hxk:x=k
   ·subst hxk
    rw[if_pos rfl]at HSN
    go_wp2_with(at_builtin;refine wpList_pushS rfl _ _ rfl wr w.heap.size _ _ t l mm dd pp len HL.out.symm (by omega) HO.out HI.out.size rfl rfl ?_;intro F' d' w3 hO3 hb3;have HO3:=Lib.hid hO3;have HI3:=Lib.hid (HI.out.trans hb3);clear hO3 hb3)
    go_roundw
    case rel=>exact⟨j+1,len+1,F',d',by omega,by omega,by go_num,rfl,Lib.hid (by rw[HSN.out,List.length_append,<-HL.out];rfl),Lib.hid (by rw[HSN.out];exact HO3.out),HI3⟩
    case measure=>simp[intOf];omega
   ·rw [if_neg hxk,List.append_nil] at HSN
    have hxe:(x==k)=false:=by simpa using hxk
    go_wp2;go_roundw
    case rel=>exact⟨j+1,len,F,f,by omega,by omega,by go_num,rfl,Lib.hid (by rw[HSN.out];exact HL.out),Lib.hid (by rw[HSN.out];exact HO.out),HI⟩
    case measure=>simp[intOf];omega
  ·obtain rfl: q = j:=by omega
   rw[HE.out]at HL HO;have hle:=HLe.out;have hnn:=HN.out.1
   by_cases hqn:q<n
   ·have hqm: ¬ q < m:=by have:=HQ.out; omega
    clear hlt hj hlj;go_wp2;go_ret;exact⟨F,len,f,rfl,by rw[HL.out,<-hnn];exact hle,HL.out.symm,HO.out,HI.out⟩
   ·clear hlt hj hlj
    go_wp2;go_ret
    exact⟨F,len,f,rfl,by rw[HL.out,<-hnn];exact hle,HL.out.symm,HO.out,HI.out⟩
end
theorem rwith16_any{A:Option Addr}{n c:Nat}{P:List Int}(i:Nat)(core:Int)(w:World)(hn:P.length=n)(hl:n<=100)(hi:i<n)(hP:Ints w w.heap.size A P)(hA:A=none->n=0/\c=0):
  Calls Tryz.prog 71 #[.slice A n c,.int .i64 i,.int .i64 core] w fun e w'=> ∃F d,e= .returned (.slice F n d)/\OwnI w' w.heap.size (.slice F n d) (P.set i core)/\Below w.heap.size w w':=by
 obtain⟨A',c',w1,hr,hO,hb⟩:=fresh16 w A c n P hn (by omega) hP hA
 obtain⟨g,rfl,hg⟩: ∃g,A'=some ⟨g,0,none⟩/\w.heap.size<=g:=by
  rcases hO.2 with⟨e,_⟩|⟨g,cap,cur,e,hg,_⟩
  ·injection e with _ e2 _;omega
  ·injection e with e1 e2 e3
   exact⟨g,e1,hg⟩
 have HR:=Lib.hid hr;obtain⟨zz,hzz⟩:=hO.cellC (j:=i) (by rw[hn];exact hi)
 have hfz:=hO.frozenC i;have HO2:=Lib.hid (ownI_setC hO (j:=i) (by rw[hn];exact hi) core)
 have HB2:=Lib.hid (show Below w.heap.size w (w1.setCell ⟨g,i,none⟩ (.int .i64 core))from hb.setCell (p:=⟨g,i,none⟩) hg _)
 clear hr hO hb hP hA hn hg;go_enter Tryz.func71,Tryz.ntmps71
 go_wp2_with(at_builtin;refine wpList_append_plainS rfl _ _ 40 _ _ rfl rfl rfl HR.out ?_)
 go_ret;exact⟨some ⟨g,0,none⟩,c',rfl,HO2.out,HB2.out⟩
theorem nums_atR{l:List Nat}{x i:Nat}(h:l[x]? =some i):(nums l)[x]? =some (i:Int):=by unfold nums;rw[List.getElem?_map,h];rfl
theorem fitP_iff{es:List Shp}{P:List Int}{i c:Nat}{s:Shp}(h1:es[i]? =some s)(h2:P[i]? =some (-1)):FitP es P i c↔FitE (onP es (P.set i (c:Int)) (c:Int)):=by
 have hp:=onP_put (c:=(c:Int)) h1 h2 (by omega)
 constructor
 ·rintro ⟨s',hs',hF⟩
  obtain rfl:=Option.some.inj (h1.symm.trans hs');exact fit_perm hF hp.symm
 ·intro hF
  exact⟨s,h1,fit_perm hF hp⟩
section
variable {A: Option Addr} {n c: Nat} {es: List Shp}
theorem rplace16_yes(m:Nat)(hm8:m<=8)(w:World)(hn:es.length=n)(hM:MayE es)(hS:Shps w w.heap.size A es)(R:Option (List Int))(hR:PlcP es m R):
    Calls Tryz.prog 39 #[.slice A n c, .int .i64 m] w fun e w'=> ∃A1 n1 c1,e= .returned (.tuple #[.slice A1 n1 c1, .int .i64 (plcE R)])/\(plcL R).length=n1/\OwnI w' w.heap.size (.slice A1 n1 c1) (plcL R)/\Below w.heap.size w w':=by
  have h8:n<=8:=by rw[<-hn];exact hM.1
  have HS:=Lib.hid (fun W (b:Below w.heap.size w W)=>hS.via b)
  have KC:=Lib.hid (rcheck15_any (c:=c) w hn (by omega) hS)
  rw[decide_eq_true hM]at KC;have HN:=Lib.hid hn;obtain⟨ord,hord⟩: ∃o,o=ordP es:=⟨_,rfl⟩;have HOL:=Lib.hid (show ord.length=n by rw[hord];unfold ordP;rw[ordO_len,hn])
  have HOO:=Lib.hid (plcP_ok es m);unfold PlcP at hR;rw[hn]at HOO hR;rw[<-hord]at HOO hR;have HR:=Lib.hid hR;have KO:=Lib.hid (fun W (b:Below w.heap.size w W)=>rorder16_any (c:=c) W hn (by omega) (HS.out W b))
  rw[<-hord]at KO;have H8:=Lib.hid h8;have HM8:=Lib.hid hm8;clear hn hM hS hR hord h8 hm8;go_enter Tryz.func39,Tryz.ntmps39;go_wp2_with fail;refine KC.out.mono ?_
  rintro e w1 ⟨rfl,b1⟩;have be:Below w1.heap.size w1 (w1.alloc (.cells #[] 3)):=below_alloc _;have HB0:=Lib.hid (b1.trans (be.mono b1.size));have HO0:=Lib.hid (show OwnI (w1.alloc (.cells #[] 3)) w.heap.size (.slice (some ⟨w1.heap.size,0,none⟩) 0 0) (List.replicate 0 (-1))from⟨rfl, .inr ⟨w1.heap.size,0, #[],rfl,b1.size,heap_alloc_new w1 _,Nat.le_refl _,by simp[maxLen],rfl,rfl⟩⟩)
  have hm8:m<=8:=HM8.out;clear KC be b1;go_wp2;go_loopw [6,7] (fun av jv wr=> ∃(j d:Nat) (F:Option Addr),j<=n/\jv= .int .i64 j/\av= .slice F j d/\Hid (OwnI wr w.heap.size (.slice F j d) (List.replicate j (-1)))/\Hid (Below w.heap.size w wr)) (fun _ v _=>n - (intOf v).toNat)
  case atStart=>exact⟨0,0,_,Nat.zero_le _,rfl,rfl,HO0,HB0⟩
  case round=>
    obtain⟨j,d,F,hj,rfl,rfl,HO,HB⟩:=hrel;have h8:n<=8:=H8.out;clear HO0 HB0 hm8
    by_cases hlt:j<n
    · go_wp2_with(at_builtin;refine wpList_push rfl _ _ rfl wr w.heap.size _ (List.replicate j (-1)) (-1) j (by simp) (by omega) HO.out HB.out.size rfl rfl ?_;intro A' c' w7 hO7 hb7;have HO7:=Lib.hid hO7;have HB7:=Lib.hid (HB.out.trans hb7);clear hO7 hb7)
      go_roundw
      case rel=>exact⟨j+1,c',A',by omega,by go_num,rfl,Lib.hid (by rw[List.replicate_succ'];exact HO7.out),HB7⟩
      case measure=>simp[intOf];omega
    · obtain rfl:n=j:=by omega
      clear hj hlt;go_wp2_with fail;refine(KO.out _ HB.out).mono ?_
      rintro e w2 ⟨Fo,dord,rfl,hOo,b2⟩;have HOr:=Lib.hid (fun W (b:Below w2.heap.size w2 W)=>(show Ints W W.heap.size Fo (nums ord)from(hOo.below b).ints))
      have HB2:=Lib.hid (HB.out.trans (b2.mono HB.out.size));have HO2:=Lib.hid (HO.out.below b2);clear hOo b2 HO HB KO;go_wp2;go_loopw [6,9] (fun av kv wr=> ∃(k d:Nat) (F:Option Addr) (P:List Int),k<=n/\kv= .int .i64 k/\av= .slice F n d/\Hid (P.length=n)/\Hid (Plc es m (ord.drop k) P R)/\Hid (OnOk es m (ord.drop k) P)/\Hid (OwnI wr w.heap.size (.slice F n d) P)/\Hid (Below w2.heap.size w2 wr)) (fun _ v _=>n - (intOf v).toNat)
      case atStart=>exact⟨0,d,F,List.replicate n (-1),Nat.zero_le _,rfl,rfl,Lib.hid (by simp),HR,HOO,HO2,Lib.hid (Below.refl _ _)⟩
      case round=>
        clear HO2 HR HOO;obtain⟨k,dP,FP,P,hk,rfl,rfl,HPl,HR,HOO,HOP,HBx⟩:=hrel;have h8:n<=8:=H8.out
        by_cases hlt:k<n
        · obtain⟨i,hi⟩: ∃i,ord[k]? =some i:=⟨_,List.getElem?_eq_getElem (by rw[HOL.out];exact hlt)⟩
          have hdr:ord.drop k=i::ord.drop (k+1):=by
            have h1:k<ord.length:=by rw[HOL.out];exact hlt
            rw[List.drop_eq_getElem_cons h1];congr 1;exact Option.some.inj ((List.getElem?_eq_getElem h1).symm.trans hi)
          rw[hdr]at HR HOO;have hin:i<n:=by have:=HOO.out.lt i (List.mem_cons_self ..);rw[HN.out]at this;exact this
          obtain⟨s,hs⟩: ∃s,es[i]? =some s:=⟨_,List.getElem?_eq_getElem (by rw[HN.out];exact hin)⟩
          have HFI:=Lib.hid (fun cc=>fitP_iff (c:=cc) hs (HOO.out.no i (List.mem_cons_self ..)))
          obtain⟨bo,oo,zz,rfl,hbo,hzz,y1⟩:=(HOr.out _ HBx.out).at_ (k:=k) (by unfold nums;rw[List.length_map,HOL.out];exact hlt)
          rw[nums_atR hi]at hzz;obtain rfl:=Option.some.inj hzz;have HIN:=Lib.hid hin;have HKN:=Lib.hid hlt;have KW:=Lib.hid (fun(core:Int) W (b:Below wr.heap.size wr W)=>rwith16_any (c:=dP) i core W HPl.out (by omega) hin (HOP.out.below b).ints (HOP.out.non16))
          have HSx:=Lib.hid (fun W (b:Below wr.heap.size wr W)=>HS.out W ((HB2.out.trans (HBx.out.mono HB2.out.size)).trans (b.mono (HB2.out.trans (HBx.out.mono HB2.out.size)).size)))
          have KOn:=Lib.hid (fun(core:Int) (Q:List Int) (G:Option Addr) (dq:Nat) W (b:Below wr.heap.size wr W) (hQ:Q.length=n) (hI:Ints W W.heap.size G Q)=>ron16_any (c:=c) (d:=dq) core W HN.out (by omega) (HSx.out W b) hQ (by omega) hI)
          clear hi hdr hs hbo hzz hk;go_wp2;clear y1 hlt;go_loopw [11] (fun cv wx=> ∃core:Nat,core<=m/\cv= .int .i64 core/\Hid (∀c',c'<core-> ¬FitP es P i c')/\Hid (Below wr.heap.size wr wx)) (fun v _=>m - (intOf v).toNat)
          case atStart=>exact⟨0,Nat.zero_le _,rfl,Lib.hid (fun c' h=>absurd h (Nat.not_lt_zero _)),Lib.hid (Below.refl _ _)⟩
          case round=>
            obtain⟨core,hc,rfl,HNo,HBy⟩:=hrel;have hm8:m<=8:=HM8.out
            by_cases hcm:core<m
            · go_wp2_with fail;refine(KW.out (core:Int) _ HBy.out).mono ?_
              rintro e v1 ⟨G1,e1,rfl,hO1,q1⟩;have HBz:=Lib.hid (HBy.out.trans (q1.mono HBy.out.size));have KOn1:=Lib.hid (KOn.out (core:Int) _ G1 e1 _ HBz.out (by rw[List.length_set];exact HPl.out) hO1.ints)
              clear hO1 q1;go_wp2_with fail;refine KOn1.out.mono ?_
              rintro e v2 ⟨G2,n2,e2,rfl,hn2,hl2,hO2,q2⟩;have HBz:=Lib.hid (HBz.out.trans (q2.mono HBz.out.size));obtain⟨rf,hrf⟩: ∃rf:Bool,rf=true↔FitE (onP es (P.set i (core:Int)) (core:Int)):=by
                by_cases z:FitE (onP es (P.set i (core:Int)) (core:Int))
                · exact⟨true,fun _=>z,fun _=>rfl⟩
                · exact⟨false,fun y=>Bool.noConfusion y,fun y=>absurd y z⟩
              have KF:=Lib.hid (rfits_any (c:=e2) rf hrf v2 hl2 (by omega) hO2.shps)
              have HRF:=Lib.hid hrf;clear hO2 q2 hn2 hl2 hrf KOn1;go_wp2_with fail;refine KF.out.mono ?_
              rintro e v3 ⟨rfl,q3⟩;have HBz:=Lib.hid (HBz.out.trans (q3.mono HBz.out.size));clear q3 KF;cases rf with
              | false =>
                have HNo2:=Lib.hid (show∀c',c'<core+1-> ¬FitP es P i c' from fun c' h=>by
                  by_cases e:c'=core
                  · subst e;exact fun q=>by have:=HRF.out.mpr ((HFI.out c').mp q);cases this
                  · exact HNo.out c' (by omega))
                go_wp2;go_roundw
                case rel=>exact⟨core+1,by omega,by go_num,HNo2,HBz⟩
                case measure=>simp[intOf];omega
              | true =>
                have hfit:FitP es P i core:=(HFI.out core).mpr (HRF.out.mp rfl);have hnx:Plc es m (ord.drop (k+1)) (P.set i (core:Int)) R:=by
                  have hh:=HR.out;obtain⟨R',hR'⟩:=plc_is es m (ord.drop (k+1)) (P.set i (core:Int));have:=hh.same (.next ⟨hcm,hfit,HNo.out⟩ hR');rw[this];exact hR'
                have HR2:=Lib.hid hnx;have HOO2:=Lib.hid (HOO.out.next hfit hcm);have hge:decide ((core:Int) ≥ (m:Int))=false:=decide_eq_false (by omega)
                have hkn:=HKN.out;have hinn:=HIN.out;clear hnx hfit;go_wp2_with fail;refine(KW.out (core:Int) _ HBz.out).mono ?_
                rintro e v4 ⟨G3,e3,rfl,hO3,q3⟩;have HB4:=Lib.hid (HBx.out.trans ((HBz.out.trans (q3.mono HBz.out.size)).mono HBx.out.size));have HO4:=Lib.hid (show OwnI v4 w.heap.size (.slice G3 n e3) (P.set i (core:Int))from own_less hO3 ((HB2.out.trans (HBx.out.mono HB2.out.size)).trans (HBz.out.mono (HB2.out.trans (HBx.out.mono HB2.out.size)).size)).size)
                clear hO3 q3 hc hcm hge;go_wp2;go_roundw
                case rel=>exact⟨k+1,e3,G3,P.set i (core:Int),by omega,by go_num,rfl,Lib.hid (by rw[List.length_set];exact HPl.out),HR2,HOO2,HO4,HB4⟩
                case measure=>simp[intOf];omega
            · obtain rfl:m=core:=by omega
              have hno:R=none:=HR.out.same (.full HNo.out);subst hno;have HBe:=Lib.hid ((HB2.out.trans (HBx.out.mono HB2.out.size)).trans (HBy.out.mono (HB2.out.trans (HBx.out.mono HB2.out.size)).size));clear hc hcm;go_wp2;refine bodyPost_ret (v:= .tuple #[.slice none 0 0, .int .i64 161]) ?_ rfl ⟨none,0,0,rfl,rfl,⟨rfl, .inl ⟨rfl,rfl⟩⟩,HBe.out⟩
              simp[results,Tryz.results39,go_sem]
        · obtain rfl:n=k:=by omega
          have hR:=HR.out;rw[List.drop_eq_nil_of_le (by rw[HOL.out];exact Nat.le_refl _)]at hR
          have hRs:R=some P:=hR.same (.done P);subst hRs;have HBe:=Lib.hid (HB2.out.trans (HBx.out.mono HB2.out.size));clear hk hlt hR;go_wp2;refine bodyPost_ret (v:= .tuple #[.slice FP n dP, .int .i64 0]) ?_ rfl ⟨FP,n,dP,rfl,HPl.out,HOP.out,HBe.out⟩
          simp[results,Tryz.results39,go_sem]
theorem rplace16_no(m:Int)(w:World)(hn:es.length=n)(hl:n<=1000)(hS:Shps w w.heap.size A es)(hno: ¬(MayE es/\0<=m/\m<=8)):
  Calls Tryz.prog 39 #[.slice A n c,.int .i64 m] w fun e w'=>e= .returned (.tuple #[.slice none 0 0,.int .i64 160])/\Below w.heap.size w w':=by
 have KC:=Lib.hid (rcheck15_any (c:=c) w hn hl hS);clear hS hn
 by_cases hM:MayE es
 ·rw [decide_eq_true hM] at KC
  by_cases h0:m<0
  ·have e1: decide (m < 0) = true:=decide_eq_true h0
   clear h0 hno hM;go_enter Tryz.func39,Tryz.ntmps39;go_wp2_with fail;refine KC.out.mono ?_
   rintro e w1 ⟨rfl,b1⟩;go_wp2;refine bodyPost_ret (v:=.tuple #[.slice none 0 0,.int .i64 160]) ?_ rfl ⟨rfl,b1⟩
   simp[results,Tryz.results39,go_sem]
  ·have e1: decide (m < 0) = false:=decide_eq_false h0
   have e2:decide (m>8)=true:=decide_eq_true (by
    rcases Int.lt_or_le 8 m with q|q
    ·exact q
    ·exact absurd ⟨hM,by omega,q⟩ hno)
   clear h0 hno hM;go_enter Tryz.func39,Tryz.ntmps39;go_wp2_with fail;refine KC.out.mono ?_
   rintro e w1 ⟨rfl,b1⟩;go_wp2;refine bodyPost_ret (v:=.tuple #[.slice none 0 0,.int .i64 160]) ?_ rfl ⟨rfl,b1⟩
   simp[results,Tryz.results39,go_sem]
 ·rw [decide_eq_false hM] at KC
  clear hno hM;go_enter Tryz.func39,Tryz.ntmps39;go_wp2_with fail;refine KC.out.mono ?_
  rintro e w1 ⟨rfl,b1⟩;go_wp2;refine bodyPost_ret (v:=.tuple #[.slice none 0 0,.int .i64 160]) ?_ rfl ⟨rfl,b1⟩
  simp[results,Tryz.results39,go_sem]
theorem rplace16_any(m:Int){L:List Int}{er:Int}(hP:PlcA es m L er)(w:World)(hn:es.length=n)(hl:n<=1000)(hS:Shps w w.heap.size A es):
  Calls Tryz.prog 39 #[.slice A n c,.int .i64 m] w fun e w'=> ∃A1 n1 c1,e= .returned (.tuple #[.slice A1 n1 c1,.int .i64 er])/\L.length=n1/\OwnI w' w.heap.size (.slice A1 n1 c1) L/\Below w.heap.size w w':=by
 rcases hP with⟨hno,rfl,rfl⟩|⟨hM,h0,h8,R,hR,rfl,rfl⟩
 ·refine (rplace16_no (c:=c) m w hn hl hS hno).mono ?_
  rintro e w' ⟨rfl,b⟩;exact⟨none,0,0,rfl,rfl,⟨rfl,.inl ⟨rfl,rfl⟩⟩,b⟩
 ·have h:=rplace16_yes (c:=c) m.toNat (by omega) w hn hM hS R hR
  rw[Int.toNat_of_nonneg h0]at h;exact h
end
end Go.Proofs.YtlfekmbalgkmeaaGreatDoor
