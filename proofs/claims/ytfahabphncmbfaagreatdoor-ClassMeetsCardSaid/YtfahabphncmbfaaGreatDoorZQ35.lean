import Derived.Test.YtfahabphncmbfaaGreatDoorZQ34
import Derived.Test.YtfahabphncmbfaaGreatDoorZQ25
import Derived.Laws.EntriesVeiled
set_option linter.all false
set_option maxRecDepth 100000
set_option maxHeartbeats 16000000
namespace Go.Proofs.YtfahabphncmbfaaGreatDoor
open Go.RowKit
open Classical renaming byContradiction→Zn
open Go.Lib renaming hid→Zf
open List renaming getElem?_eq_getElem→Zh,getElem_of_mem→ZA,map_cons→ZM,map_nil→Yd,map_toArray→ZW
open Nat renaming le_refl→Zm,le_trans→ZK,lt_of_lt_of_le→ZE,lt_or_ge→Zv,zero_le→Zu
open Go.Proofs.Tryz renaming prog→Zg
open Go.World renaming cell?_alloc_at→Zp
open Go renaming execOp→Yae
open Go.Proofs.Tryz
def badL(z:Int):Bool:=decide (z<0)||decide (1000<z)
theorem Zqi(z:Int)(w:World):Calls Zg 161 #[.int .i64 z] w fun e w'=>e=.returned (.bool (badL z))/\w'=w:=by
 unfold badL;go_enter func161,ntmps161;go_wp2
 all_goals
  go_ret;refine⟨?_,rfl⟩
  first|rfl|simp
def Zet(W L:List Int):Prop:=L.length=W.length/\∀z∈L,0<=z/\z<=1000
instance (W L:List Int):Decidable (Zet W L):=by unfold Zet;infer_instance
def OnOk(O L:List Int):Prop:=(1<=O.length/\O.length<=8)/\∀(j:Nat) (x:Int),O[j]?=some x->x= -1\/((0<=x/\x<L.length)/\Zaj L x≠0/\x∉O.take j)
def Zgn(E:List (Int×Int))(O L:List Int)(j:Nat):Prop:=¬ OverC E L (j:Int)/\(Zaj L (j:Int)=0\/(j:Int)∈O)
def Zke(E:List (Int×Int))(O L:List Int):Prop:=∃ j:Nat,j<L.length/\Zgn E O L j
theorem crew_parts{W:List Int}{E:List (Int×Int)}{O L:List Int}:CrewOk W.length E O L↔Zet W L/\OnOk O L/\¬Zke E O L:=by
 rw[Zl7];constructor
 ·rintro ⟨⟨h1,h2,h3⟩,h4,h5,h6⟩
  refine⟨⟨h3,fun z hz=> ?_⟩,⟨⟨h1,h2⟩,fun j x hx=> ?_⟩,?_⟩
  ·obtain ⟨j,hj,he⟩:=ZA hz
   have:=h4 j hj
   rwa [ZdJ (z:=z) (by rw[Zh hj,he])]at this
  ·rcases h6 j x hx with q | ⟨q1,q2,q3,q4⟩
   ·exact .inl q
   ·exact .inr ⟨by rw[h3];exact q1,q2,q4⟩
  ·rintro ⟨j,hj,h7,h8 | h8⟩
   ·exact h7 (h5 j hj h8)
   ·obtain ⟨i,hi,he⟩:=ZA h8
    rcases h6 i (j:Int) (by rw[Zh hi,he])with q|⟨_,_,q3,_⟩
    ·omega
    ·exact h7 q3
 ·rintro ⟨⟨h1,h2⟩,⟨h3,h4⟩,h5⟩
  refine⟨⟨h3.1,h3.2,h1⟩,fun j hj=>h2 _ (Zck hj),fun j hj h0=> ?_,fun j x hx=> ?_⟩
  ·apply Zn
   exact fun q=>h5 ⟨j,hj,q,.inl h0⟩
  ·rcases h4 j x hx with q | ⟨q1,q2,q4⟩
   ·exact .inl q
   ·refine .inr ⟨by rw [<- h1]; exact q1,q2,?_,q4⟩
    obtain⟨k,rfl⟩:∃k:Nat,x=k:=⟨x.toNat,by omega⟩;apply Zn;exact fun q=>h5 ⟨k,by omega,q,.inr (List.mem_of_getElem? hx)⟩
section
variable {A: Option Addr}{n c: Nat}{F: Option Addr}{m d: Nat}{W: List Int}{E: List (Int × Int)}{N: Option Addr}{nn nc: Nat}{L: List Int}
theorem Zn9(w:World)(hn:L.length=nn)(hl:nn<=1000)(hI:Ints w w.heap.size N L):
  Calls Zg 43 #[.slice N nn nc,.func (.func 161) #[] #[]] w fun e w'=>e=.returned (.bool (decide (∃z∈L,badL z=true)))/\w'=w:=by
 refine(ZhR N nc nn L 161 #[] (Za1 func161 (by kernel_rfl) rfl) (fun k=>match L[k]? with|some z=>badL z|none=>false) (fun _ x=>x=w) w.heap.size hn hl (fun _ x hx=>hx▸hI) (fun k x W' hk hW=> ?_) (decide (∃z∈L,badL z=true)) ?_ w rfl).mono ?_
 ·subst hW
  have:=Zqi x W';simp only[hk];exact this.mono fun e w' h=>h
 ·rw [decide_eq_true_iff]
  constructor
  ·rintro ⟨z,hz,hb⟩
   obtain⟨j,hj,he⟩:=ZA hz;exact⟨j,by omega,by rw[Zh hj,he];exact hb⟩
  ·rintro ⟨j,hj,hb⟩
   have hj':j<L.length:=by omega
   rw[Zh hj']at hb;exact⟨_,List.getElem_mem hj',hb⟩
 ·rintro e w' ⟨rfl,k,hk⟩
  exact⟨rfl,hk⟩
theorem Zmg(hn:L.length=nn)(hW:W.length=n):Zet W L↔nn=n/\¬(∃z∈L,badL z=true):=by
 unfold Zet;rw[hn,hW];constructor
 ·rintro ⟨h1,h2⟩
  refine⟨h1,fun⟨z,hz,hb⟩=> ?_⟩;have:=h2 z hz;simp[badL]at hb;omega
 ·rintro ⟨h1,h2⟩
  refine⟨h1,fun z hz=> ?_⟩;apply Zn;intro hb;refine h2 ⟨z,hz,?_⟩;simp[badL];omega
theorem ZhV(w:World)(hn:L.length=nn)(hl:nn<=1000)(hW:W.length=n)(hI:Ints w w.heap.size N L):
    Calls Zg 112 #[.agg #[.slice A n c,.slice F m d],.slice N nn nc] w fun e w'=>e=.returned (.bool (decide (Zet W L)))/\Below w.heap.size w w':=by
  have hF:=Zmg hn hW;have C:=Zf (fun(W':World) (hI:Ints W' W'.heap.size N L)=>Zn9 (nc:=nc) W' hn hl hI);have HI:Hid (Ints (w.alloc (.cells #[.slice A n c,.slice F m d] 25)) (w.alloc (.cells #[.slice A n c,.slice F m d] 25)).heap.size N L):=Zf ((hI.alloc (Zm _) _).more (by simp));obtain⟨r,hr⟩:∃r,r=decide (Zet W L):=⟨_,rfl⟩;obtain⟨b,hb⟩:∃b,b=decide (∃z∈L,badL z=true):=⟨_,rfl⟩;rw[<-hr];rw[<-hb]at C;have hrv:r=decide (nn=n/\b=false):=by rw[hr];refine decide_eq_decide.mpr (hF.trans ?_);rw[hb,decide_eq_false_iff_not]
  clear hF hI hr hb hn hW hl;by_cases h1:nn=n
  · subst h1;obtain rfl:r= !b:=by rw[hrv];cases b<;>simp
    clear hrv;cases b with
    | true =>
      go_enter func112,ntmps112;go_wp2_with fail;refine(C.out _ HI.out).mono ?_
      rintro e w1 ⟨rfl,rfl⟩;go_wp2;go_ret;exact⟨rfl,Zaa _⟩
    | false =>go_enter func112,ntmps112;go_wp2_with fail;refine(C.out _ HI.out).mono ?_;rintro e w1 ⟨rfl,rfl⟩;go_wp2;go_ret;exact⟨rfl,Zaa _⟩
  · obtain rfl:r=false:=by rw[hrv];simp[h1]
    clear hrv;have h1':((nn:Int)==(n:Int))=false:=by simpa using(fun q:(nn:Int)=(n:Int)=>h1 (by omega))
    clear C h1;go_enter func112,ntmps112;go_wp2;go_ret;exact⟨rfl,Zaa _⟩
end
section
variable {A: Option Addr}{n c: Nat}{F: Option Addr}{m d: Nat}{W: List Int}{E: List (Int × Int)}{A': Option Addr}{n' c': Nat}{F': Option Addr}{m' d': Nat}{O L: List Int}
structure BxK(w0:World)(A:Option Addr)(n c:Nat)(F:Option Addr)(m d:Nat)(O L:List Int)(w:World):Prop where
 bel:Below w0.heap.size w0 w
 lt:w0.heap.size<w.heap.size
 c0:w.cell? ⟨w0.heap.size,0,none⟩=some (.slice A n c)
 c1:w.cell? ⟨w0.heap.size,1,none⟩=some (.slice F m d)
 k0:IsC w0 A n c F m d O L
theorem BxK.k{w0 w:World}(h:BxK w0 A n c F m d O L w):IsC w A n c F m d O L:=h.k0.below h.bel
theorem BxK.next{w0 w w':World}(h:BxK w0 A n c F m d O L w)(hb:Below w.heap.size w w'):BxK w0 A n c F m d O L w':=
 ⟨h.bel.trans (hb.mono h.bel.size),ZE h.lt hb.size,(hb.cell h.lt).trans h.c0,(hb.cell h.lt).trans h.c1,h.k0⟩
theorem BxK.start{w:World}(hk:IsC w A n c F m d O L):BxK w A n c F m d O L (w.alloc (.cells #[.slice A n c,.slice F m d] 37)):=
 ⟨Zaa _,by simp,by rw[Zp _ _ _ _ rfl];rfl,by rw[Zp _ _ _ _ rfl];rfl,hk⟩
open Classical in
theorem Zkf(w:World)(hk:IsC w A' n' c' F' m' d' O L):
  Calls Zg 113 #[.agg #[.slice A' n' c',.slice F' m' d']] w fun e w'=>e=.returned (.bool (decide (OnOk O L)))/\Below w.heap.size w w':=by
 obtain⟨w1,hw1⟩:∃w1,w1=w.alloc (.cells #[.slice A' n' c',.slice F' m' d'] 37):=⟨_,rfl⟩;have B0:Hid (BxK w A' n' c' F' m' d' O L w1):=Zf (by rw[hw1];exact BxK.start hk);have HW:=Zf hw1;have HO:=Zf hk.hn;have HM:=Zf hk.hm;have ln:=hk.ln;have hcA:=hk.cA;obtain⟨r,hr⟩:∃r,r=decide (OnOk O L):=⟨_,rfl⟩;rw[<-hr];have HRN:Hid (¬OnOk O L->r=false):=Zf (fun h=>by rw[hr];exact Zd h);have HRY:Hid (OnOk O L->r=true):=Zf (fun h=>by rw[hr];exact Ze h);clear hw1 hk hr;have q0:=B0.out.c0;have q1:=B0.out.c1;by_cases h1:n'<1
 ·obtain rfl: r = false:=HRN.out fun h => by have:=h.1.1; have:=HO.out; omega
  obtain rfl:n'=0:=by omega
  go_enter func113,ntmps113;go_wp2;go_ret;exact⟨rfl,by rw[<-HW.out];exact B0.out.bel⟩
 have h1a:decide ((n':Int)<1)=false:=Zd (by omega);have h1b:decide (n'<1)=false:=Zd (by omega);by_cases h2:8<n'
 ·obtain rfl: r = false:=HRN.out fun h => by have:=h.1.2; have:=HO.out; omega
  have h2a:decide ((8:Int)<(n':Int))=true:=Ze (by omega);have h2b:decide (8<n')=true:=Ze (by omega);go_enter func113,ntmps113;go_wp2;go_ret;exact⟨rfl,by rw[<-HW.out];exact B0.out.bel⟩
 have h2a:decide ((8:Int)<(n':Int))=false:=Zd (by omega);have h2b:decide (8<n')=false:=Zd (by omega);have hn1:1<=n':=by omega
 have hn8:n'<=8:=by omega
 clear h1 h2;go_enter func113,ntmps113;go_wp2;rw[<-HW.out];clear HW;go_wp2;go_loopw [18] (fun i wr=>∃j:Nat,j<=n'/\i=.int .i64 j/\Hid (∀(i:Nat) (x:Int),i<j->O[i]?=some x->x= -1\/((0<=x/\x<L.length)/\Zaj L x≠0/\x∉O.take i))/\Hid (BxK w A' n' c' F' m' d' O L wr)) (fun i _=>n' - (intOf i).toNat)
 case atStart=>exact⟨0,Zu _,rfl,Zf (fun i x hi=>absurd hi (by omega)),B0⟩
 case round=>
  obtain⟨j,hj,rfl,HE,HB⟩:=hrel;clear B0 q0 q1;have q0:=HB.out.c0;have q1:=HB.out.c1;by_cases hlt:j<n'
  ·obtain ⟨bk,off,x,rfl,hbk,hxk,d1⟩:=HB.out.k.on.at_ (k:=j) (by rw [HO.out]; exact hlt)
   have HXK:=Zf hxk;have HXN:Hid (OnOk O L->x= -1\/((0<=x/\x<L.length)/\Zaj L x≠0/\x∉O.take j)):=Zf (fun h=>h.2 j x hxk);clear hxk hbk;by_cases x2:x= -1
   ·subst x2
    have HE2:Hid (∀(i:Nat) (x:Int),i<j+1->O[i]?=some x->x= -1\/((0<=x/\x<L.length)/\Zaj L x≠0/\x∉O.take i)):=Zf (fun i x hi hx=>by
     rcases Zv i j with h|h
     ·exact HE.out i x h hx
     ·obtain rfl: i = j:=by omega
      rw[HXK.out]at hx;exact .inl (Option.some.inj hx).symm)
    go_wp2;go_roundw
    case rel=>exact⟨j+1,by omega,by go_num,HE2,HB⟩
    case measure=>simp[intOf];omega
   have x2a:(x== -1)=false:=beq_eq_false_iff_ne.mpr x2;by_cases x1:x<0
   ·obtain rfl: r = false:=HRN.out fun h => by rcases HXN.out h with q | ⟨q,_⟩ <;> omega
    have x1a:decide (x<0)=true:=Ze x1;go_wp2;go_ret;exact⟨rfl,HB.out.bel⟩
   have x1a:decide (x<0)=false:=Zd x1;have HNE:=Zf x2;obtain⟨q,rfl⟩:∃q:Nat,x=q:=⟨x.toNat,by omega⟩;clear x1 x2;by_cases x3:m'<=q
   ·obtain rfl: r = false:=HRN.out fun h => by rcases HXN.out h with q | ⟨q,_⟩ <;> have:=HM.out <;> omega
    have x3a:decide ((m':Int)<=(q:Int))=true:=Ze (by omega);have x3b:decide (m'<=q)=true:=Ze (by omega);go_wp2;go_ret;exact⟨rfl,HB.out.bel⟩
   have x3a:decide ((m':Int)<=(q:Int))=false:=Zd (by omega);have x3b:decide (m'<=q)=false:=Zd (by omega);have hqm:q<m':=by omega
   clear x3;obtain⟨b2,off2,y,rfl,hbg2,hy,d2⟩:=HB.out.k.left.at_ (k:=q) (by rw[HM.out];exact hqm);have HY:Hid (Zaj L (q:Int)=y):=Zf (ZdJ hy);clear hy hbg2;by_cases hy1:y=0
   ·obtain rfl: r = false:=HRN.out fun h => by
     rcases HXN.out h with q1|⟨_,q2,_⟩
     ·exact HNE.out q1
     ·exact q2 (HY.out.trans hy1)
    subst hy1;go_wp2;go_ret;exact⟨rfl,HB.out.bel⟩
   have hy1a:(y==0)=false:=beq_eq_false_iff_ne.mpr hy1;have HY1:=Zf hy1;clear hy1;have hjc:j<=c':=by omega
   have C3:=Zf (Za2 (some ⟨bk,off,none⟩) c' j (O.take j) (q:Int) wr.heap.size wr (by rw[List.length_take,HO.out];omega) (by omega) (HB.out.k.on.take j));by_cases hm:(q:Int)∈O.take j
   ·obtain rfl: r = false:=HRN.out fun h => by
     rcases HXN.out h with q1|⟨_,_,q2⟩
     ·exact HNE.out q1
     ·exact q2 hm
    rw[Ze hm]at C3;clear hm;go_wp2_with fail;refine C3.out.mono ?_;rintro e w3 ⟨rfl,rfl⟩;go_wp2;go_ret;exact⟨rfl,HB.out.bel⟩
   ·have HE2: Hid (∀ (i: Nat) (x: Int),i < j + 1 -> O[i]?= some x -> x = -1 \/ ((0 <= x /\ x < L.length) /\ Zaj L x ≠ 0 /\ x ∉ O.take i)):=Zf (fun i x hi hx => by
     rcases Zv i j with h|h
     ·exact HE.out i x h hx
     ·obtain rfl: i = j:=by omega
      rw[HXK.out]at hx;obtain rfl:(q:Int)=x:=Option.some.inj hx;exact .inr ⟨⟨by omega,by have:=HM.out;omega⟩,by rw[HY.out];exact HY1.out,hm⟩)
    rw[Zd hm]at C3;clear hm;go_wp2_with fail;refine C3.out.mono ?_;rintro e w3 ⟨rfl,rfl⟩;go_wp2;go_roundw
    case rel=>exact⟨j+1,by omega,by go_num,HE2,HB⟩
    case measure=>simp[intOf];omega
  ·obtain rfl: n' = j:=by omega
   obtain rfl:r=true:=HRY.out ⟨⟨by have:=HO.out;omega,by have:=HO.out;omega⟩,fun i x hx=>HE.out i x (by have:=(List.getElem?_eq_some_iff.1 hx).1;have:=HO.out;omega) hx⟩;go_wp2;go_ret;exact⟨rfl,HB.out.bel⟩
open Classical in
theorem Zi1(w:World)(hg:IsG w A n c F m d W E)(hk:IsC w A' n' c' F' m' d' O L)(hF:Fits W.length E)(h64:W.length<=64)(hL:L.length=W.length):
  Calls Zg 114 #[.agg #[.slice A n c,.slice F m d],.agg #[.slice A' n' c',.slice F' m' d']] w fun e w'=>e=.returned (.bool (decide (Zke E O L)))/\Below w.heap.size w w':=by
 obtain⟨w0,hw0⟩:∃w0,w0=(w.alloc (.cells #[.slice A n c,.slice F m d] 25)).alloc (.cells #[.slice A' n' c',.slice F' m' d'] 37):=⟨_,rfl⟩;have B0:Hid (BxDC w A n c F m d W E A' n' c' F' m' d' O L w0):=Zf (by rw[hw0];exact BxDC.start hg hk);have HW:=Zf hw0;have HO:=Zf hk.hn;have HM:=Zf hk.hm;have ln:=hk.ln;have hm64:m'<=64:=by have:=hk.hm;omega
 have CW:=Zf (Zgo (q:=d') w0 B0.out.g hF h64 B0.out.k.hm hL B0.out.k.left);obtain⟨r,hr⟩:∃r,r=decide (Zke E O L):=⟨_,rfl⟩;rw[<-hr];have HRN:Hid (¬Zke E O L->r=false):=Zf (fun h=>by rw[hr];exact Zd h);have HRY:Hid (Zke E O L->r=true):=Zf (fun h=>by rw[hr];exact Ze h);clear hg hk hF hL h64 hw0 hr;have p0:=B0.out.d0;have p1:=B0.out.d1;have q0:=B0.out.c0;have q1:=B0.out.c1;go_enter func114,ntmps114;go_wp2_with fail;rw[<-HW.out];clear HW;go_wp2_with fail;refine CW.out.mono ?_;rintro e w1 ⟨g,rfl,hwb,hg,b1⟩;have B1:Hid (BxDC w A n c F m d W E A' n' c' F' m' d' O L w1/\WaitB g E L w1):=Zf ⟨B0.out.next b1,hwb⟩;clear hwb hg b1 B0 CW p0 p1 q0 q1;have q0:=B1.out.1.c0;have q1:=B1.out.1.c1;go_wp2;go_loopw [15] (fun i wr=>∃j:Nat,j<=m'/\i=.int .i64 j/\Hid (∀i:Nat,i<j->¬Zgn E O L i)/\Hid (BxDC w A n c F m d W E A' n' c' F' m' d' O L wr/\WaitB g E L wr)) (fun i _=>m' - (intOf i).toNat)
 case atStart=>exact⟨0,Zu _,rfl,Zf (fun i hi=>absurd hi (by omega)),B1⟩
 case round=>
  obtain⟨j,hj,rfl,HE,HB⟩:=hrel;clear B1 q0 q1;have q0:=HB.out.1.c0;have q1:=HB.out.1.c1;by_cases hlt:j<m'
  ·obtain ⟨bk,off,y,rfl,hbk,hy,d1⟩:=HB.out.1.k.left.at_ (k:=j) (by rw [HM.out]; exact hlt)
   have HY:Hid (Zaj L (j:Int)=y):=Zf (ZdJ hy);have C1:=Zf (Zi2 j wr HB.out.2 (by omega));clear hy hbk;have HST:Hid (¬Zgn E O L j->∀i:Nat,i<j+1->¬Zgn E O L i):=Zf (fun h i hi=>by
    rcases Zv i j with h1|h1
    ·exact HE.out i h1
    ·obtain rfl: i = j:=by omega
     exact h)
   have HYES:Hid (Zgn E O L j->r=true):=Zf (fun h=>HRY.out ⟨j,by rw[HM.out];exact hlt,h⟩);by_cases ho:OverC E L (j:Int)
   ·have HNX:=Zf (HST.out fun q => q.1 ho)
    rw[Zd (fun q=>q ho)]at C1;clear ho;go_wp2_with(go_at_call 209;refine C1.out.mono ?_;rintro e w' ⟨rfl,rfl⟩);go_roundw
    case rel=>exact⟨j+1,by omega,by go_num,HNX,HB⟩
    case measure=>simp[intOf];omega
   ·have HOV:=Zf ho
    rw[Ze ho]at C1;clear ho;by_cases hy0:y=0
    ·obtain rfl: r = true:=HYES.out ⟨HOV.out,.inl (HY.out.trans hy0)⟩
     subst hy0;go_wp2_with(go_at_call 209;refine C1.out.mono ?_;rintro e w' ⟨rfl,rfl⟩);go_ret;exact⟨rfl,HB.out.1.bel⟩
    ·have hy0a: (y == 0) = false:=beq_eq_false_iff_ne.mpr hy0
     have HY0:=Zf hy0;have C2:=Zf (Za2 A' c' n' O (j:Int) wr.heap.size wr HO.out (by omega) HB.out.1.k.on);clear hy0;by_cases hm:(j:Int)∈O
     ·obtain rfl: r = true:=HYES.out ⟨HOV.out,.inr hm⟩
      rw[Ze hm]at C2;clear hm;go_wp2_with(first|(go_at_call 209;refine C1.out.mono ?_;rintro e w' ⟨rfl,rfl⟩)|(refine C2.out.mono ?_;rintro e w' ⟨rfl,rfl⟩));go_ret;exact⟨rfl,HB.out.1.bel⟩
     ·have HNX:=Zf (HST.out fun q => by
       rcases q.2 with q2|q2
       ·exact HY0.out (HY.out.symm.trans q2)
       ·exact hm q2)
      rw[Zd hm]at C2;clear hm;go_wp2_with(first|(go_at_call 209;refine C1.out.mono ?_;rintro e w' ⟨rfl,rfl⟩)|(refine C2.out.mono ?_;rintro e w' ⟨rfl,rfl⟩));go_roundw
      case rel=>exact⟨j+1,by omega,by go_num,HNX,HB⟩
      case measure=>simp[intOf];omega
  ·obtain rfl: m' = j:=by omega
   obtain rfl:r=false:=HRN.out fun⟨i,hi,h⟩=>HE.out i (by rw[<-HM.out];exact hi) h;go_wp2;go_ret;exact⟨rfl,HB.out.1.bel⟩
open Classical in
theorem ZeX(w:World)(hg:IsG w A n c F m d W E)(hk:IsC w A' n' c' F' m' d' O L):
  Calls Zg 59 #[.agg #[.slice A n c,.slice F m d],.agg #[.slice A' n' c',.slice F' m' d']] w fun e w'=>e=.returned (.int .i64 (ZcW W E O L))/\Below w.heap.size w w':=by
 obtain⟨w0,hw0⟩:∃w0,w0=(w.alloc (.cells #[.slice A n c,.slice F m d] 25)).alloc (.cells #[.slice A' n' c',.slice F' m' d'] 37):=⟨_,rfl⟩;have B0:Hid (BxDC w A n c F m d W E A' n' c' F' m' d' O L w0):=Zf (by rw[hw0];exact BxDC.start hg hk);have HW:=Zf hw0;have CK:=Zf (ZdC w0 B0.out.g);have lm:=hk.lm;have hW:=hg.hn;obtain⟨r,hr⟩:∃r,r=ZcW W E O L:=⟨_,rfl⟩;rw[<-hr];have HR:=Zf hr;clear hw0 hr;have p0:=B0.out.d0;have p1:=B0.out.d1;have q0:=B0.out.c0;have q1:=B0.out.c1;by_cases he:chkE W E=0
 ·have hM:=chkE_zero.mp he
  have C1:=Zf (fun(W':World) (hb:Below w.heap.size w W')=>ZhV (A:=A) (c:=c) (F:=F) (m:=m) (d:=d) (W:=W) (nc:=d') W' hk.hm (by omega) hW ((hk.left.below hb).more hb.size));have C2:=Zf (fun(W':World) (hb:Below w.heap.size w W')=>Zkf W' (hk.below hb));have C3:=Zf (fun(hL:L.length=W.length) (W':World) (hb:Below w.heap.size w W')=>Zi1 W' (hg.below hb) (hk.below hb) hM.fits hM.nodes hL);rw[he]at CK;have HRV:Hid (r=if Zet W L/\OnOk O L/\¬Zke E O L then 0 else 110):=Zf (by
   rw[HR.out];by_cases h:CrewOk W.length E O L
   ·rw[Zc (crew_parts.mp h)];exact crewE_zero.mpr ⟨hM,h⟩
   ·rw[Zb (fun q=>h (crew_parts.mpr q))];exact Zl6 he h)
  clear hg hk hM HR he hW lm;by_cases h1:Zet W L
  ·rw [Ze h1] at C1
   by_cases h2:OnOk O L
   ·rw [Ze h2] at C2
    have C4:=Zf (C3.out h1.1);clear C3;by_cases h3:Zke E O L
    ·rw [Ze h3] at C4
     obtain rfl:r=110:=by rw[HRV.out,Zb (fun q=>q.2.2 h3)]
     clear h1 h2 h3;go_enter func59,ntmps59;go_wp2_with fail;rw[<-HW.out];refine CK.out.mono ?_;rintro e w1 ⟨rfl,b1⟩;have B1:=Zf (B0.out.next b1);clear b1 B0 CK p0 p1 q0 q1;have p0:=B1.out.d0;have p1:=B1.out.d1;have q0:=B1.out.c0;have q1:=B1.out.c1;go_wp2_with fail;refine(C1.out _ B1.out.bel).mono ?_;rintro e w2 ⟨rfl,b1⟩;have B2:=Zf (B1.out.next b1);clear b1 B1 p0 p1 q0 q1;have p0:=B2.out.d0;have p1:=B2.out.d1;have q0:=B2.out.c0;have q1:=B2.out.c1;go_wp2_with fail;refine(C2.out _ B2.out.bel).mono ?_;rintro e w3 ⟨rfl,b1⟩;have B3:=Zf (B2.out.next b1);clear b1 B2 p0 p1 q0 q1;have p0:=B3.out.d0;have p1:=B3.out.d1;have q0:=B3.out.c0;have q1:=B3.out.c1;go_wp2_with fail;refine(C4.out _ B3.out.bel).mono ?_;rintro e w4 ⟨rfl,b1⟩;have B4:=Zf (B3.out.next b1);clear b1 B3 p0 p1 q0 q1;go_wp2;go_ret;exact⟨rfl,B4.out.bel⟩
    ·rw [Zd h3] at C4
     obtain rfl:r=0:=by rw[HRV.out,Zc ⟨h1,h2,h3⟩]
     clear h1 h2 h3;go_enter func59,ntmps59;go_wp2_with fail;rw[<-HW.out];refine CK.out.mono ?_;rintro e w1 ⟨rfl,b1⟩;have B1:=Zf (B0.out.next b1);clear b1 B0 CK p0 p1 q0 q1;have p0:=B1.out.d0;have p1:=B1.out.d1;have q0:=B1.out.c0;have q1:=B1.out.c1;go_wp2_with fail;refine(C1.out _ B1.out.bel).mono ?_;rintro e w2 ⟨rfl,b1⟩;have B2:=Zf (B1.out.next b1);clear b1 B1 p0 p1 q0 q1;have p0:=B2.out.d0;have p1:=B2.out.d1;have q0:=B2.out.c0;have q1:=B2.out.c1;go_wp2_with fail;refine(C2.out _ B2.out.bel).mono ?_;rintro e w3 ⟨rfl,b1⟩;have B3:=Zf (B2.out.next b1);clear b1 B2 p0 p1 q0 q1;have p0:=B3.out.d0;have p1:=B3.out.d1;have q0:=B3.out.c0;have q1:=B3.out.c1;go_wp2_with fail;refine(C4.out _ B3.out.bel).mono ?_;rintro e w4 ⟨rfl,b1⟩;have B4:=Zf (B3.out.next b1);clear b1 B3 p0 p1 q0 q1;go_wp2;go_ret;exact⟨rfl,B4.out.bel⟩
   ·rw [Zd h2] at C2
    obtain rfl:r=110:=by rw[HRV.out,Zb (fun q=>h2 q.2.1)]
    clear h1 h2 C3;go_enter func59,ntmps59;go_wp2_with fail;rw[<-HW.out];refine CK.out.mono ?_;rintro e w1 ⟨rfl,b1⟩;have B1:=Zf (B0.out.next b1);clear b1 B0 CK p0 p1 q0 q1;have p0:=B1.out.d0;have p1:=B1.out.d1;have q0:=B1.out.c0;have q1:=B1.out.c1;go_wp2_with fail;refine(C1.out _ B1.out.bel).mono ?_;rintro e w2 ⟨rfl,b1⟩;have B2:=Zf (B1.out.next b1);clear b1 B1 p0 p1 q0 q1;have p0:=B2.out.d0;have p1:=B2.out.d1;have q0:=B2.out.c0;have q1:=B2.out.c1;go_wp2_with fail;refine(C2.out _ B2.out.bel).mono ?_;rintro e w3 ⟨rfl,b1⟩;have B3:=Zf (B2.out.next b1);clear b1 B2 p0 p1 q0 q1;go_wp2;go_ret;exact⟨rfl,B3.out.bel⟩
  ·rw [Zd h1] at C1
   obtain rfl:r=110:=by rw[HRV.out,Zb (fun q=>h1 q.1)]
   clear h1 C2 C3;go_enter func59,ntmps59;go_wp2_with fail;rw[<-HW.out];refine CK.out.mono ?_;rintro e w1 ⟨rfl,b1⟩;have B1:=Zf (B0.out.next b1);clear b1 B0 CK p0 p1 q0 q1;have p0:=B1.out.d0;have p1:=B1.out.d1;have q0:=B1.out.c0;have q1:=B1.out.c1;go_wp2_with fail;refine(C1.out _ B1.out.bel).mono ?_;rintro e w2 ⟨rfl,b1⟩;have B2:=Zf (B1.out.next b1);clear b1 B1 p0 p1 q0 q1;go_wp2;go_ret;exact⟨rfl,B2.out.bel⟩
 ·have heb: (chkE W E != 0) = true:=bne_iff_ne.mpr he
  obtain⟨z,hz⟩:∃z,z=chkE W E:=⟨_,rfl⟩;obtain rfl:r=z:=by rw[HR.out,hz];exact ZnK he
  rw[<-hz]at heb CK;clear hg hk HR he hz hW lm;go_enter func59,ntmps59;go_wp2_with fail;rw[<-HW.out];refine CK.out.mono ?_;rintro e w1 ⟨rfl,b1⟩;have B1:=Zf (B0.out.next b1);clear b1 B0 CK;go_wp2;go_ret;exact⟨rfl,B1.out.bel⟩
end
section
variable {A: Option Addr}{n c: Nat}{F: Option Addr}{m d: Nat}{W: List Int}{E: List (Int × Int)}{A': Option Addr}{n' c': Nat}{F': Option Addr}{m' d': Nat}{O L: List Int}
structure StRd(w0:World)(g gw:Nat)(A:Option Addr)(n c:Nat)(F:Option Addr)(m d:Nat)(W:List Int)(E:List (Int×Int))(A':Option Addr)(n' c':Nat)(F':Option Addr)(m' d':Nat)(O L:List Int)(w:World):Prop where
 bx:BxDC w0 A n c F m d W E A' n' c' F' m' d' O L w
 wb:WaitB g E L w
 fn:w.cell? ⟨gw,0,none⟩=some (.func (.func 209) #[] #[.pointer (some ⟨g,0,none⟩)])
 l1:w0.heap.size+1<gw
 l2:g<gw
 l3:gw<w.heap.size
theorem StRd.later{w0 w w':World}{g gw:Nat}(h:StRd w0 g gw A n c F m d W E A' n' c' F' m' d' O L w)(hb:Below (gw+1) w w'):StRd w0 g gw A n c F m d W E A' n' c' F' m' d' O L w':=
 ⟨h.bx.later (hb.mono (by have:=h.l1;omega)),RowV.below h.wb hb (by have:=h.l2;omega),(hb.cell (show gw<gw+1 by omega)).trans h.fn,h.l1,h.l2,ZE h.l3 hb.size⟩
theorem StRd.next{w0 w w':World}{g gw:Nat}(h:StRd w0 g gw A n c F m d W E A' n' c' F' m' d' O L w)(hb:Below w.heap.size w w'):StRd w0 g gw A n c F m d W E A' n' c' F' m' d' O L w':=h.later (hb.mono h.l3)
theorem Zkg(j:Nat)(w0 w:World)(g gw:Nat)(hs:StRd w0 g gw A n c F m d W E A' n' c' F' m' d' O L w)(hj:j<m')(h64:m'<=64):
  Calls Zg 200 #[.int .i64 j,.pointer (some ⟨w0.heap.size+1,0,none⟩),.pointer (some ⟨gw,0,none⟩)] w fun e w'=>e=.returned (.bool (decide (ZaD E O L j)))/\w'=w:=by
 have q0:=hs.bx.c0;have q1:=hs.bx.c1;have f0:=hs.fn;have hk:=hs.bx.k;have ln:=hk.ln;obtain⟨bk,off,y,rfl,hbk,hy,d1⟩:=hk.left.at_ (k:=j) (by rw[hk.hm];exact hj);have HY:Hid (Zaj L (j:Int)=y):=Zf (ZdJ hy);have C1:=Zf (Za2 A' c' n' O (j:Int) w.heap.size w hk.hn (by omega) hk.on);have C2:=Zf (Zi2 j w hs.wb (by omega));obtain⟨r,hr⟩:∃r,r=decide (ZaD E O L j):=⟨_,rfl⟩;rw[<-hr];have HR:=Zf hr;clear hs hk hy hbk hr;by_cases h0:0<y
 ·by_cases hm: (j: Int) ∈ O
  ·obtain rfl: r = false:=HR.out.trans (Zd fun h => h.2.1 hm)
   rw[Ze hm]at C1;clear hm C2;go_enter func200,ntmps200;go_wp2_with fail;refine C1.out.mono ?_;rintro e w1 ⟨rfl,rfl⟩;go_wp2;go_ret;exact⟨rfl,rfl⟩
  ·rw [Zd hm] at C1
   by_cases ho:OverC E L (j:Int)
   ·obtain rfl: r = true:=HR.out.trans (Ze ⟨by rw [HY.out]; exact h0,hm,ho⟩)
    rw[Zd (fun q=>q ho)]at C2;clear hm ho;go_enter func200,ntmps200;go_wp2_with fail;refine C1.out.mono ?_;rintro e w1 ⟨rfl,rfl⟩;go_wp2_with(go_at_call 209;refine C2.out.mono ?_;rintro e w' ⟨rfl,rfl⟩);go_ret;exact⟨rfl,rfl⟩
   ·obtain rfl: r = false:=HR.out.trans (Zd fun h => ho h.2.2)
    rw[Ze ho]at C2;clear hm ho;go_enter func200,ntmps200;go_wp2_with fail;refine C1.out.mono ?_;rintro e w1 ⟨rfl,rfl⟩;go_wp2_with(go_at_call 209;refine C2.out.mono ?_;rintro e w' ⟨rfl,rfl⟩);go_ret;exact⟨rfl,rfl⟩
 ·obtain rfl: r = false:=HR.out.trans (Zd fun h => h0 (by have:=h.1; rw [HY.out] at this; exact this))
  have h0b:decide (0<y)=false:=Zd h0;clear h0 C1 C2;go_enter func200,ntmps200;go_wp2;go_ret;exact⟨rfl,rfl⟩
theorem ZeY(w:World)(hg:IsG w A n c F m d W E)(hk:IsC w A' n' c' F' m' d' O L)(hF:Fits W.length E)(h64:W.length<=64)(hl:L.length=W.length):
  Calls Zg 142 #[.agg #[.slice A n c,.slice F m d],.agg #[.slice A' n' c',.slice F' m' d']] w (GotOwn (ZaL E O L m') w):=by
 obtain⟨w0,hw0⟩:∃w0,w0=(w.alloc (.cells #[.slice A n c,.slice F m d] 25)).alloc (.cells #[.slice A' n' c',.slice F' m' d'] 37):=⟨_,rfl⟩;have B0:Hid (BxDC w A n c F m d W E A' n' c' F' m' d' O L w0):=Zf (by rw[hw0];exact BxDC.start hg hk);have HW:=Zf hw0;have HM:=Zf hk.hm;have hm64:m'<=64:=by have:=hk.hm;omega
 have CW:=Zf (Zgo (q:=d') w0 B0.out.g hF h64 B0.out.k.hm hl B0.out.k.left);clear hg hk hF hl h64 hw0;have p0:=B0.out.d0;have p1:=B0.out.d1;have q0:=B0.out.c0;have q1:=B0.out.c1;go_enter func142,ntmps142;go_wp2_with fail;rw[<-HW.out];clear HW;go_wp2_with fail;refine CW.out.mono ?_;rintro e w1 ⟨g,rfl,hwb,hg,b1⟩;obtain⟨w2,hw2⟩:∃w2,w2=w1.alloc (.cells #[.func (.func 209) #[] #[.pointer (some ⟨g,0,none⟩)]] 92):=⟨_,rfl⟩;obtain⟨gw,hgw⟩:∃gw,gw=w1.heap.size:=⟨_,rfl⟩;have HGW:=Zf hgw;have HW2:=Zf hw2;have S2:Hid (StRd w g gw A n c F m d W E A' n' c' F' m' d' O L w2):=Zf (by
  have hb2:Below w1.heap.size w1 w2:=by rw[hw2];exact Zaa _
  have hlt:g<w1.heap.size:=RowV.lt hwb;refine⟨(B0.out.next b1).next hb2,RowV.below hwb hb2 hlt,?_,?_,by omega,by rw[hw2,hgw];simp⟩
  ·rw[hw2,hgw,Zp _ _ _ _ rfl];rfl
  ·have:=(B0.out.next b1).lt;omega)
 have r1:=(B0.out.next b1).c1;have r2:w.heap.size+1<w1.heap.size:=(B0.out.next b1).lt;clear hwb hg b1 B0 CW p0 p1 q0 q1 hgw hw2;go_wp2;rw[<-HW2.out,<-HGW.out];clear HW2 HGW r1 r2;go_loopw [7,17] (fun v i wr=>∃(j k:Nat) (A1:Option Addr) (c1:Nat),j<=m'/\k<=j/\i=.int .i64 j/\v=.slice A1 k c1/\Hid (k=(ZaL E O L j).length)/\Hid (OwnI wr (gw+1) v (ZaL E O L j))/\Hid (StRd w g gw A n c F m d W E A' n' c' F' m' d' O L wr)) (fun _ i _=>m' - (intOf i).toNat)
 case atStart=>exact⟨0,0,_,_,Zu _,Zm _,rfl,rfl,Zf rfl,Zf ⟨rfl,.inl ⟨rfl,rfl⟩⟩,S2⟩
 case round=>
  clear S2;obtain⟨j,k,A1,c1,hj,hkj,rfl,rfl,HK,HO,HB⟩:=hrel;have hsz:gw+1<=wr.heap.size:=HB.out.l3;by_cases hlt:j<m'
  ·have HS:=Zf (Zj7 E O L j)
   have C1:=Zf (Zkg j w wr g gw HB.out hlt hm64);by_cases hr:ZaD E O L j
   ·have HN: Hid (ZaL E O L (j + 1) = ZaL E O L j ++ [(j: Int)]):=Zf (by rw [HS.out,Zc hr])
    rw[Ze hr]at C1;clear HS hr
    go_wp2_with(first
     |(go_at_call 200;refine C1.out.mono ?_;rintro e w' ⟨rfl,rfl⟩)
     |(at_builtin;refine ZaV rfl _ _ rfl w' (gw+1) _ (ZaL E O L j) (j:Int) k HK.out.symm (by omega) HO.out hsz rfl rfl ?_;intro A2 c2 w3 HO3 HB3;(have HO3':=Zf HO3);(have HB3':=Zf HB3);clear HO3 HB3))
    have HB4:=Zf (HB.out.later HB3'.out);go_roundw
    case rel=>exact⟨j+1,k+1,A2,c2,by omega,by omega,by go_num,rfl,Zf (by rw[HN.out,List.length_append,<-HK.out];rfl),Zf (by rw[HN.out];exact HO3'.out),HB4⟩
    case measure=>simp[intOf];omega
   ·have HN: Hid (ZaL E O L (j + 1) = ZaL E O L j):=Zf (by rw [HS.out,Zb hr])
    rw[Zd hr]at C1;clear HS hr;go_wp2_with(go_at_call 200;refine C1.out.mono ?_;rintro e w' ⟨rfl,rfl⟩);go_roundw
    case rel=>exact⟨j+1,k,A1,c1,by omega,by omega,by go_num,rfl,Zf (by rw[HN.out,HK.out]),Zf (by rw[HN.out];exact HO.out),HB⟩
    case measure=>simp[intOf];omega
  ·obtain rfl: m' = j:=by omega
   go_wp2;go_ret;exact⟨A1,c1,by rw[<-HK.out];rfl,by rw[<-HK.out];exact HO.out.down (by have:=HB.out.l1;omega),HB.out.bx.bel⟩
theorem Zmh(w:World)(hg:IsG w A n c F m d W E)(hk:IsC w A' n' c' F' m' d' O L):
  Calls Zg 86 #[.agg #[.slice A n c,.slice F m d],.agg #[.slice A' n' c',.slice F' m' d']] w fun e w'=>∃v,e=.returned v/\GotL (Zcy W E O L) v w'/\Below w.heap.size w w':=by
 obtain⟨w0,hw0⟩:∃w0,w0=(w.alloc (.cells #[.slice A n c,.slice F m d] 25)).alloc (.cells #[.slice A' n' c',.slice F' m' d'] 37):=⟨_,rfl⟩;have B0:Hid (BxDC w A n c F m d W E A' n' c' F' m' d' O L w0):=Zf (by rw[hw0];exact BxDC.start hg hk);have HW:=Zf hw0;have CK:=Zf (ZeX w0 B0.out.g B0.out.k);obtain⟨z,hz⟩:∃z,z=ZcW W E O L:=⟨_,rfl⟩;rw[<-hz]at CK;have hmw:=hk.hm;clear hw0 hg hk;have p0:=B0.out.d0;have p1:=B0.out.d1;have q0:=B0.out.c0;have q1:=B0.out.c1;by_cases he:z=0
 ·subst he
  obtain⟨hM,hC⟩:=crewE_zero.mp hz.symm;have CR:=Zf (fun W' (h1:IsG W' A n c F m d W E) (h2:IsC W' A' n' c' F' m' d' O L)=>ZeY W' h1 h2 hM.fits hM.nodes hC.ln);have HV:Hid (Zcy W E O L=ZaL E O L m'):=Zf (by unfold Zcy;rw[Zc hz.symm,<-hC.ln,hmw]);clear hM hC hz hmw;go_enter func86,ntmps86;go_wp2_with fail;rw[<-HW.out];refine CK.out.mono ?_;rintro e w1 ⟨rfl,b1⟩;have B1:=Zf (B0.out.next b1);clear b1 B0 CK p0 p1 q0 q1;have p0:=B1.out.d0;have p1:=B1.out.d1;have q0:=B1.out.c0;have q1:=B1.out.c1;go_wp2_with fail;refine(CR.out w1 B1.out.g B1.out.k).mono ?_;rintro e w2 ⟨A1,c1,rfl,ho,b2⟩;have B2:=Zf (B1.out.next b2);have HO:=Zf ho;clear ho b2;go_wp2;go_ret;exact⟨.slice A1 (ZaL E O L m').length c1,rfl,⟨A1,c1,by rw[HV.out],by rw[HV.out];exact HO.out.ints⟩,B2.out.bel⟩
 ·have heb: (z != 0) = true:=bne_iff_ne.mpr he
  have HV:Hid (Zcy W E O L= []):=Zf (by unfold Zcy;rw[Zb (by rw[<-hz];exact he)]);clear hz he hmw;go_enter func86,ntmps86;go_wp2_with fail;rw[<-HW.out];refine CK.out.mono ?_;rintro e w1 ⟨rfl,b1⟩;have B1:=Zf (B0.out.next b1);clear b1 B0 CK p0 p1 q0 q1;go_wp2;go_ret;exact⟨.slice none 0 0,rfl,⟨none,0,by rw[HV.out];rfl,by rw[HV.out];exact Ints.nil_ _ _ _⟩,B1.out.bel⟩
end
open Go
structure IsGrS(w:World)(base:Nat)(A:Option Addr)(n c:Nat)(F:Option Addr)(md d:Nat)(W:List Int)(E:List (Int×Int)):Prop where
 hn:W.length=n
 hm:E.length=md
 ln:n<=400
 lm:md<=400
 ints:Ints w base A W
 pairs:Pairs w base F E
 hA:A=none->n=0/\c=0
 hF:F=none->md=0/\d=0
 tab:Tab64 w
 tb:0<base
section
variable {w w': World}{base: Nat}{A: Option Addr}{n c: Nat}{F: Option Addr}{md d: Nat}{W: List Int}{E: List (Int × Int)}
theorem IsGrS.isG(h:IsGrS w base A n c F md d W E)(hb:base<=w.heap.size):IsG w A n c F md d W E:=⟨h.hn,h.hm,h.ln,h.lm,h.ints.more hb,h.pairs.more hb,h.hA,h.hF,h.tab⟩
theorem IsGrS.below(h:IsGrS w base A n c F md d W E)(hb:Below base w w'):IsGrS w' base A n c F md d W E:=⟨h.hn,h.hm,h.ln,h.lm,h.ints.below hb,h.pairs.below hb,h.hA,h.hF,h.tab.below hb h.tb,h.tb⟩
theorem IsGrS.of(h:IsG w A n c F md d W E):IsGrS w w.heap.size A n c F md d W E:=⟨h.hn,h.hm,h.ln,h.lm,h.ints,h.pairs,h.hA,h.hF,h.tab,h.tab.lt⟩
end
theorem IsGng.crew{w:World}{base m:Nat}{g:Gng}{L:List Int}{a:GAd}(h:IsGng w base m g L a)(hm:m<=8)(hl:L.length<=400):∃AL cL,a.vL=.slice AL L.length cL/\IsC w (some ⟨a.gO,0,none⟩) m a.cO AL L.length cL g.O L:=by
 obtain⟨AL,cL,e,hI⟩:=h.left.slice;refine⟨AL,cL,e,h.ol,rfl,by omega,hl,h.on.ints,hI,(fun q=>by cases q),fun q=> ?_,?_⟩
 ·rcases h.left.2 with ⟨q1,q2⟩ | ⟨b,cp,cur,q1,_⟩
  ·rw [e] at q1
   injection q1 with _ q1 q3;exact⟨q1,q3⟩
  ·rw [e,q] at q1
   injection q1 with q1 _ _;cases q1
 ·obtain ⟨cur,_,_,h1,_⟩:=Zah h.onF.1
  exact h1
def Zrz(gw m:Nat)(ad:GAd)(vW vE:Value)(AL:Option Addr)(nL cL:Nat)(zs:List Int)(x:Nat):Nat->Value->World->Prop
 |0,v,w=>v=.pointer (some ⟨gw,0,none⟩)
 |1,v,w=>v=.pointer (some ⟨gw,0,none⟩)
 |2,v,w=>v=.pointer (some ⟨gw,5,none⟩)
 |3,v,w=>v=.agg #[vW,vE]
 |4,v,w=>v=.pointer (some ⟨gw,0,none⟩)
 |5,v,w=>v=.pointer (some ⟨gw,0,none⟩)
 |6,v,w=>v=.pointer (some ⟨gw,0,none⟩)
 |7,v,w=>v=.pointer (some ⟨gw,0,none⟩)
 |8,v,w=>v=.agg #[.slice (some ⟨ad.gO,0,none⟩) m ad.cO,.slice AL nL cL]
 |9,v,w=>GotL zs v w
 |10,v,w=>v=.int .i64 x
 |11,v,w=>v=.bool true
 |12,v,w=>v=.bool false
 |_,_,_=>True
theorem Zkh(gw m:Nat)(ad:GAd)(vW vE:Value)(AL:Option Addr)(nL cL:Nat)(zs:List Int)(x:Nat):∀kq v w w',Zrz gw m ad vW vE AL nL cL zs x kq v w->Below w.heap.size w w'->Zrz gw m ad vW vE AL nL cL zs x kq v w':=by
 intro kq v w w' h hb
 match kq,h with
 |0,h=>exact h
 |1,h=>exact h
 |2,h=>exact h
 |3,h=>exact h
 |4,h=>exact h
 |5,h=>exact h
 |6,h=>exact h
 |7,h=>exact h
 |8,h=>exact h
 |9,h=>exact h.below hb
 |10,h=>exact h
 |11,h=>exact h
 |12,h=>exact h
 |kq+13,h=>exact trivial
def ZrA(g:Gng)(c x:Nat):Gng:=Zkl {g with O:=g.O.set c (x:Int)} c 0
section
variable {base gw m n: Nat}{g: Gng}{L: List Int}{ad: GAd}{W: List Int}{E: List (Int × Int)}{WA: Option Addr}{Wn Wc: Nat}{EF: Option Addr}{Em Ed: Nat}
theorem IsWk.gO_ne{w:World}{vW vE:Value}(h:IsWk w base gw m g L ad vW vE):gw≠ad.gO:=by obtain⟨cur,hb,_⟩:=Zah h.gng.onF.1;rintro rfl;have h1:=h.row;unfold RowV at h1;rw[hb]at h1;injection h1 with h1;injection h1 with _ h3 _;exact Za h3
theorem IsWk.putO{w:World}{vW vE:Value}(h:IsWk w base gw m g L ad vW vE){c:Nat}(hc:c<m)(x:Int):IsWk (w.setCell ⟨ad.gO,c,none⟩ (.int .i64 x)) base gw m {g with O:=g.O.set c x} L ad vW vE:=
 ⟨h.row.far h.gO_ne,h.hw,h.gng.putO hc x⟩
theorem ZrB{c x:Nat}(w:World)(hc:c<m)(hm:m<=8)(hx:x<W.length)(hr:ZaD E g.O L x)(hcr:CrewOk W.length E g.O L)(hM:May W E)(hg:IsGrS w base WA Wn Wc EF Em Ed W E)
    (h:IsWk w base gw m g L ad (.slice WA Wn Wc) (.slice EF Em Ed)):
    Calls Zg 118 #[.pointer (some ⟨gw,0,none⟩),.int .i64 c,.int .i64 x] w fun e w'=>e=.returned (.int .i64 0)/\IsWk w' base gw m (ZrA g c x) L ad (.slice WA Wn Wc) (.slice EF Em Ed)/\Kp [ad.gO,ad.gF,ad.gT] w w':=by
  obtain⟨AL,cL,hvL,hC⟩:=h.gng.crew hm (by rw[hcr.ln];have:=hM.nodes;omega);obtain⟨zs,hzs⟩:∃zs,zs=Zcy W E g.O L:=⟨_,rfl⟩;have hz2:zs=ZaL E g.O L W.length:=by rw[hzs];unfold Zcy;rw[Zc (crewE_zero.mpr ⟨hM,hcr⟩)]
  have HZS:=Zf hzs.symm;have HIN:Hid ((x:Int)∈zs):=Zf (by rw[hz2];exact mem_nums.mpr (mem_readyU.mpr ⟨hx,hr⟩));have HZL:Hid (zs.length<=1000):=Zf (by rw[hz2];exact ZK (Zhh _ _ _ _) (by have:=hM.nodes;omega));obtain⟨vW,hvW⟩:∃v,v=Value.slice WA Wn Wc:=⟨_,rfl⟩;obtain⟨vE,hvE⟩:∃v,v=Value.slice EF Em Ed:=⟨_,rfl⟩;rw[<-hvW,<-hvE]at h⊢;have HVW:=Zf hvW;have HVE:=Zf hvE;have HVL:=Zf hvL;have HC:=Zf hC;have HG:=Zf hg;have H:=Zf h;have HBS:Hid (base<=w.heap.size):=Zf (by have:=h.gng.lts;omega);obtain⟨nL,hnL⟩:∃nL,nL=L.length:=⟨_,rfl⟩;rw[<-hnL]at HVL HC;clear hvW hvE hvL hC hg h hzs hz2 hnL hr hcr;go_enter func118,ntmps118;go_upto_region 1 with fail;refine ZaO [7,8,9,10,11,12,13,14,15,16,17,18,19] [] [] (by kernel_rfl) (by kernel_rfl) (by kernel_rfl) (by intro d hd;simp at hd⊢;omega) (fun z=>IsWk z base gw m g L ad vW vE/\Below w.heap.size w z) (Zrz gw m ad vW vE AL nL cL zs x)
    (fun z z' h hb=>⟨h.1.below hb,h.2.trans (hb.mono h.2.size)⟩) (Zkh gw m ad vW vE AL nL cL zs x) (⟨H.out.below (Below.refl _ _).drew,(Below.refl _ _).drew⟩) (fun p hp v w hv=>by cases hp) (fun kq hkq=>by simp at hkq) ?hstep ?hend
  case hstep=>
    intro kq o ho hw a w hI hA hd K hK;obtain⟨ρ,hρ⟩:∃ρ,a.eval=ρ:=⟨_,rfl⟩;rw[hρ]at hA hd
    match kq,ho with
    | 0, ho =>cases ho;exact Zab hK hρ (.pointer (some ⟨gw,0,none⟩)) (by have h:=hA.tmp 0 (by decide);simp[Yae,h,go_sem]) rfl
    | 1, ho =>
      cases ho;have f0:(ρ (.tmp 7))=.pointer (some ⟨gw,0,none⟩):=hd ⟨0,.data⟩ (by simp) (by rfl)
      exact Zab hK hρ (.pointer (some ⟨gw,0,none⟩)) (by simp[Yae,f0,hA.const,go_sem]) rfl
    | 2, ho =>
      cases ho;have f1:(ρ (.tmp 8))=.pointer (some ⟨gw,0,none⟩):=hd ⟨1,.data⟩ (by simp) (by rfl)
      exact Zab hK hρ (.pointer (some ⟨gw,5,none⟩)) (by simp[Yae,f1,hA.const,go_sem]) rfl
    | 3, ho =>
      cases ho;have f2:(ρ (.tmp 9))=.pointer (some ⟨gw,5,none⟩):=hd ⟨2,.data⟩ (by simp) (by rfl);have h0:w.cell? ⟨gw,5,none⟩=some vW:=hI.1.row.cell rfl;have h1:w.cell? ⟨gw,6,none⟩=some vE:=hI.1.row.cell rfl
      exact Zab hK hρ (.agg #[vW,vE]) (by simp[Yae,f2,h0,h1,go_sem]) rfl
    | 4, ho =>cases ho;exact Zab hK hρ (.pointer (some ⟨gw,0,none⟩)) (by have h:=hA.tmp 0 (by decide);simp[Yae,h,go_sem]) rfl
    | 5, ho =>
      cases ho;have f4:(ρ (.tmp 11))=.pointer (some ⟨gw,0,none⟩):=hd ⟨4,.data⟩ (by simp) (by rfl)
      exact Zab hK hρ (.pointer (some ⟨gw,0,none⟩)) (by simp[Yae,f4,hA.const,go_sem]) rfl
    | 6, ho =>
      cases ho;have f5:(ρ (.tmp 12))=.pointer (some ⟨gw,0,none⟩):=hd ⟨5,.data⟩ (by simp) (by rfl)
      exact Zab hK hρ (.pointer (some ⟨gw,0,none⟩)) (by simp[Yae,f5,hA.const,go_sem]) rfl
    | 7, ho =>
      cases ho;have f6:(ρ (.tmp 13))=.pointer (some ⟨gw,0,none⟩):=hd ⟨6,.data⟩ (by simp) (by rfl)
      exact Zab hK hρ (.pointer (some ⟨gw,0,none⟩)) (by simp[Yae,f6,hA.const,go_sem]) rfl
    | 8, ho =>
      cases ho;have f7:(ρ (.tmp 14))=.pointer (some ⟨gw,0,none⟩):=hd ⟨7,.data⟩ (by simp) (by rfl);have h0:w.cell? ⟨gw,0,none⟩=some (.slice (some ⟨ad.gO,0,none⟩) m ad.cO):=hI.1.row.cell rfl;have h1:w.cell? ⟨gw,1,none⟩=some (.slice AL nL cL):=by rw[<-HVL.out];exact hI.1.row.cell rfl
      exact Zab hK hρ (.agg #[.slice (some ⟨ad.gO,0,none⟩) m ad.cO,.slice AL nL cL]) (by simp[Yae,f7,h0,h1,go_sem]) rfl
    | 9, ho =>cases ho;have f3:(ρ (.tmp 10))=.agg #[vW,vE]:=hd ⟨3,.data⟩ (by simp) (by rfl);have f8:(ρ (.tmp 15))=.agg #[.slice (some ⟨ad.gO,0,none⟩) m ad.cO,.slice AL nL cL]:=hd ⟨8,.data⟩ (by simp) (by rfl);exact ZaU hK hρ 86 _ _ #[.agg #[vW,vE],.agg #[.slice (some ⟨ad.gO,0,none⟩) m ad.cO,.slice AL nL cL]] rfl (by simp only[ZW,ZM,Yd,hA.const,f3,f8]) (Za1 func86 (by kernel_rfl) rfl) (by
    rw[HVW.out,HVE.out];refine(Zmh w ((HG.out.below (hI.2.mono HBS.out)).isG (ZK HBS.out hI.2.size)) (HC.out.below hI.2)).mono ?_
    rintro e w' ⟨v,he,hv,hb⟩;rw[HZS.out]at hv;exact⟨_,he,hv,hb⟩)
    | 10, ho =>cases ho;exact Zab hK hρ (.int .i64 x) (by have h:=hA.tmp 2 (by decide);simp[Yae,h,go_sem]) rfl
    | 11, ho =>
      cases ho;have f9:GotL zs (ρ (.tmp 16)) w:=hd ⟨9,.data⟩ (by simp) (by rfl);have f10:(ρ (.tmp 17))=.int .i64 x:=hd ⟨10,.data⟩ (by simp) (by rfl)
      obtain⟨A2,c2,e2,hI2⟩:=f9;exact ZaU hK hρ 92 _ _ #[.slice A2 zs.length c2,.int .i64 x] rfl (by simp only[ZW,ZM,Yd,hA.const,f10,e2]) (Za1 func92 (by kernel_rfl) rfl) ((Za2 A2 c2 zs.length zs x _ w rfl HZL.out hI2).mono fun e w' ⟨he,hw⟩=>⟨.bool true,by rw[he,Ze HIN.out],rfl,by rw[hw];exact Below.refl _ _⟩)
    | 12, ho =>
      cases ho;have f11:(ρ (.tmp 18))=.bool true:=hd ⟨11,.data⟩ (by simp) (by rfl)
      exact Zab hK hρ (.bool false) (by simp[Yae,f11,hA.const,go_sem]) rfl
    |kq+13,ho=>simp at ho
  case hend=>
    intro vals w1 hI hF;have f19:vals 19=.bool false:=hF 12 (by decide);have W1:=Zf hI.1;have HB1:=Zf hI.2;clear hI hF;simp only[ZaW,Zba,List.contains_cons,List.contains_nil,Nat.reduceBEq,Bool.or_false,Bool.false_or,Bool.or_true,Bool.true_or,cond_true,cond_false,Nat.zero_add,Nat.reduceAdd];rw[f19];have c0:w1.cell? ⟨gw,0,none⟩=some (.slice (some ⟨ad.gO,0,none⟩) m ad.cO):=W1.out.row.cell rfl;have o0:=W1.out.gng.onc hc;have z0:=(W1.out.gng.frozen c).2.2.2;have hn:¬((m:Int)<=(c:Int)):=by omega
    have CT:=Zf (Zll 0 (w1.setCell ⟨ad.gO,c,none⟩ (.int .i64 x)) hc hm (W1.out.putO hc x));rw[show((0:Nat):Int)=0 from rfl]at CT;have HK1:=Zf ((Kp.of_below HB1.out [ad.gO,ad.gF,ad.gT]).set (k:=c) (.int .i64 (x:Int)) (by simp:ad.gO∈ [ad.gO,ad.gF,ad.gT]));clear HB1 H;go_wp2_with fail;refine CT.out.mono ?_;rintro e w2 ⟨rfl,W2,hk⟩;have HW2:=Zf W2;have HK2:=Zf (HK1.out.trans (hk.more (by simp)));clear W2 hk CT HK1 W1 c0 o0 z0;go_wp2;go_ret;exact⟨rfl,HW2.out,HK2.out⟩
end
end Go.Proofs.YtfahabphncmbfaaGreatDoor
