import Derived.Test.YtngdbbligebcbabGreatDoorZM23
import Derived.Test.YtngdbbligebcbabGreatDoorZM8
import Derived.Test.YtngdbbligebcbabGreatDoorZM9
import Derived.Test.YtngdbbligebcbabGreatDoorZM11
import Derived.Test.YtngdbbligebcbabGreatDoorZM5
import Derived.Test.YtngdbbligebcbabGreatDoorZM18
import Derived.Laws.Rows
import Derived.Laws.ResultCell
set_option linter.unusedVariables false
set_option maxRecDepth 100000
set_option maxHeartbeats 4000000
namespace Go.Proofs.YtngdbbligebcbabGreatDoor
open Go.RowKit
def badL(z:Int):Bool:=decide (z<0)||decide (1000<z)
theorem badL_any(z:Int)(w:World):Calls Tryz.prog 116 #[.int .i64 z] w fun e w'=>e= .returned (.bool (badL z))/\w'=w:=by
 unfold badL;go_enter Tryz.func116,Tryz.ntmps116;go_wp2
 all_goals
  go_ret;refine⟨?_,rfl⟩
  first|rfl|simp
def LeftOk(W L:List Int):Prop:=L.length=W.length/\ ∀z∈L,0<=z/\z<=1000
instance (W L:List Int):Decidable (LeftOk W L):=by unfold LeftOk;infer_instance
def OnOk(O L:List Int):Prop:=(1<=O.length/\O.length<=8)/\ ∀(j:Nat) (x:Int),O[j]? =some x->x= -1\/((0<=x/\x<L.length)/\leftC L x≠0/\x∉O.take j)
def EarlyAt(E:List (Int×Int))(O L:List Int)(j:Nat):Prop:=¬ OverC E L (j:Int)/\(leftC L (j:Int)=0\/(j:Int)∈O)
def Early(E:List (Int×Int))(O L:List Int):Prop:=∃ j:Nat,j<L.length/\EarlyAt E O L j
theorem crew_parts{W:List Int}{E:List (Int×Int)}{O L:List Int}:CrewOk W.length E O L↔LeftOk W L/\OnOk O L/\ ¬Early E O L:=by
 rw[crewOk_iff];constructor
 ·rintro ⟨⟨h1,h2,h3⟩,h4,h5,h6⟩
  refine⟨⟨h3,fun z hz=> ?_⟩,⟨⟨h1,h2⟩,fun j x hx=> ?_⟩,?_⟩
  ·obtain ⟨j,hj,he⟩:=List.getElem_of_mem hz
   have:=h4 j hj
   rwa [leftC_at (z:=z) (by rw[List.getElem?_eq_getElem hj,he])]at this
  ·rcases h6 j x hx with q | ⟨q1,q2,q3,q4⟩
   ·exact .inl q
   ·exact .inr ⟨by rw[h3];exact q1,q2,q4⟩
  ·rintro ⟨j,hj,h7,h8 | h8⟩
   ·exact h7 (h5 j hj h8)
   ·obtain ⟨i,hi,he⟩:=List.getElem_of_mem h8
    rcases h6 i (j:Int) (by rw[List.getElem?_eq_getElem hi,he])with q|⟨_,_,q3,_⟩
    ·omega
    ·exact h7 q3
 ·rintro ⟨⟨h1,h2⟩,⟨h3,h4⟩,h5⟩
  refine⟨⟨h3.1,h3.2,h1⟩,fun j hj=>h2 _ (leftC_mem hj),fun j hj h0=> ?_,fun j x hx=> ?_⟩
  ·apply Classical.byContradiction
   exact fun q=>h5 ⟨j,hj,q,.inl h0⟩
  ·rcases h4 j x hx with q | ⟨q1,q2,q4⟩
   ·exact .inl q
   ·refine .inr ⟨by rw [<- h1]; exact q1,q2,?_,q4⟩
    obtain⟨k,rfl⟩: ∃k:Nat,x=k:=⟨x.toNat,by omega⟩
    apply Classical.byContradiction
    exact fun q=>h5 ⟨k,by omega,q,.inr (List.mem_of_getElem? hx)⟩
section
variable {A: Option Addr} {n c: Nat} {F: Option Addr} {m d: Nat} {W: List Int} {E: List (Int × Int)} {N: Option Addr} {nn nc: Nat} {L: List Int}
theorem lefts_any(w:World)(hn:L.length=nn)(hl:nn<=1000)(hI:Ints w w.heap.size N L):
  Calls Tryz.prog 32 #[.slice N nn nc,.func (.func 116) #[] #[]] w fun e w'=>e= .returned (.bool (decide (∃z∈L,badL z=true)))/\w'=w:=by
 refine(has_int N nc nn L 116 #[] (eg_of Tryz.func116 (by kernel_rfl) rfl) (fun k=>match L[k]? with|some z=>badL z|none=>false) (fun _ x=>x=w) w.heap.size hn hl (fun _ x hx=>hx▸hI) (fun k x W' hk hW=> ?_) (decide (∃z∈L,badL z=true)) ?_ w rfl).mono ?_
 ·subst hW
  have:=badL_any x W';simp only[hk];exact this.mono fun e w' h=>h
 ·rw [decide_eq_true_iff]
  constructor
  ·rintro ⟨z,hz,hb⟩
   obtain⟨j,hj,he⟩:=List.getElem_of_mem hz;exact⟨j,by omega,by rw[List.getElem?_eq_getElem hj,he];exact hb⟩
  ·rintro ⟨j,hj,hb⟩
   have hj':j<L.length:=by omega
   rw[List.getElem?_eq_getElem hj']at hb
   exact⟨_,List.getElem_mem hj',hb⟩
 ·rintro e w' ⟨rfl,k,hk⟩
  exact⟨rfl,hk⟩
theorem leftOk_iff(hn:L.length=nn)(hW:W.length=n):LeftOk W L↔nn=n/\ ¬(∃z∈L,badL z=true):=by
 unfold LeftOk;rw[hn,hW];constructor
 ·rintro ⟨h1,h2⟩
  refine⟨h1,fun⟨z,hz,hb⟩=> ?_⟩
  have:=h2 z hz;simp[badL]at hb;omega
 ·rintro ⟨h1,h2⟩
  refine⟨h1,fun z hz=> ?_⟩
  apply Classical.byContradiction
  intro hb;refine h2 ⟨z,hz,?_⟩
  simp[badL];omega
theorem rightLeft_any(w:World)(hn:L.length=nn)(hl:nn<=1000)(hW:W.length=n)(hI:Ints w w.heap.size N L):
    Calls Tryz.prog 86 #[.agg #[.slice A n c, .slice F m d], .slice N nn nc] w fun e w'=>e= .returned (.bool (decide (LeftOk W L)))/\Below w.heap.size w w':=by
  have hF:=leftOk_iff hn hW;have C:=Lib.hid (fun(W':World) (hI:Ints W' W'.heap.size N L)=>lefts_any (nc:=nc) W' hn hl hI)
  have HI:Hid (Ints (w.alloc (.cells #[.slice A n c, .slice F m d] 25)) (w.alloc (.cells #[.slice A n c, .slice F m d] 25)).heap.size N L):=Lib.hid ((hI.alloc (Nat.le_refl _) _).more (by simp))
  obtain⟨r,hr⟩: ∃r,r=decide (LeftOk W L):=⟨_,rfl⟩;obtain⟨b,hb⟩: ∃b,b=decide (∃z∈L,badL z=true):=⟨_,rfl⟩;rw[<-hr];rw[<-hb]at C;have hrv:r=decide (nn=n/\b=false):=by
    rw[hr];refine decide_eq_decide.mpr (hF.trans ?_)
    rw[hb,decide_eq_false_iff_not]
  clear hF hI hr hb hn hW hl
  by_cases h1:nn=n
  · subst h1;obtain rfl:r= !b:=by rw[hrv];cases b<;>simp
    clear hrv;cases b with
    | true =>
      go_enter Tryz.func86,Tryz.ntmps86;go_wp2_with fail;refine(C.out _ HI.out).mono ?_
      rintro e w1 ⟨rfl,rfl⟩;go_wp2;go_ret;exact⟨rfl,below_alloc _⟩
    | false =>
      go_enter Tryz.func86,Tryz.ntmps86;go_wp2_with fail;refine(C.out _ HI.out).mono ?_
      rintro e w1 ⟨rfl,rfl⟩;go_wp2;go_ret;exact⟨rfl,below_alloc _⟩
  · obtain rfl:r=false:=by rw[hrv];simp[h1]
    clear hrv;have h1':((nn:Int)==(n:Int))=false:=by simpa using(fun q:(nn:Int)=(n:Int)=>h1 (by omega))
    clear C h1;go_enter Tryz.func86,Tryz.ntmps86;go_wp2;go_ret;exact⟨rfl,below_alloc _⟩
end
section
variable {A: Option Addr} {n c: Nat} {F: Option Addr} {m d: Nat} {W: List Int} {E: List (Int × Int)} {A': Option Addr} {n' c': Nat} {F': Option Addr} {m' d': Nat} {O L: List Int}
structure BxK(w0:World)(A:Option Addr)(n c:Nat)(F:Option Addr)(m d:Nat)(O L:List Int)(w:World):Prop where
 bel:Below w0.heap.size w0 w
 lt:w0.heap.size<w.heap.size
 c0:w.cell? ⟨w0.heap.size,0,none⟩=some (.slice A n c)
 c1:w.cell? ⟨w0.heap.size,1,none⟩=some (.slice F m d)
 k0:IsC w0 A n c F m d O L
theorem BxK.k{w0 w:World}(h:BxK w0 A n c F m d O L w):IsC w A n c F m d O L:=h.k0.below h.bel
theorem BxK.next{w0 w w':World}(h:BxK w0 A n c F m d O L w)(hb:Below w.heap.size w w'):BxK w0 A n c F m d O L w':=
 ⟨h.bel.trans (hb.mono h.bel.size),Nat.lt_of_lt_of_le h.lt hb.size,(hb.cell h.lt).trans h.c0,(hb.cell h.lt).trans h.c1,h.k0⟩
theorem BxK.start{w:World}(hk:IsC w A n c F m d O L):BxK w A n c F m d O L (w.alloc (.cells #[.slice A n c,.slice F m d] 37)):=
 ⟨below_alloc _,by simp,by rw[World.cell?_alloc_at _ _ _ _ rfl];rfl,by rw[World.cell?_alloc_at _ _ _ _ rfl];rfl,hk⟩
open Classical in
theorem rightOn_any(w:World)(hk:IsC w A' n' c' F' m' d' O L):
  Calls Tryz.prog 87 #[.agg #[.slice A' n' c',.slice F' m' d']] w fun e w'=>e= .returned (.bool (decide (OnOk O L)))/\Below w.heap.size w w':=by
 obtain⟨w1,hw1⟩: ∃w1,w1=w.alloc (.cells #[.slice A' n' c',.slice F' m' d'] 37):=⟨_,rfl⟩;have B0:Hid (BxK w A' n' c' F' m' d' O L w1):=Lib.hid (by rw[hw1];exact BxK.start hk)
 have HW:=Lib.hid hw1;have HO:=Lib.hid hk.hn;have HM:=Lib.hid hk.hm;have ln:=hk.ln;have hcA:=hk.cA;obtain⟨r,hr⟩: ∃r,r=decide (OnOk O L):=⟨_,rfl⟩;rw[<-hr];have HRN:Hid (¬OnOk O L->r=false):=Lib.hid (fun h=>by rw[hr];exact decide_eq_false h)
 have HRY:Hid (OnOk O L->r=true):=Lib.hid (fun h=>by rw[hr];exact decide_eq_true h)
 clear hw1 hk hr;have q0:=B0.out.c0;have q1:=B0.out.c1
 by_cases h1:n'<1
 ·obtain rfl: r = false:=HRN.out fun h => by have:=h.1.1; have:=HO.out; omega
  obtain rfl:n'=0:=by omega
  go_enter Tryz.func87,Tryz.ntmps87;go_wp2;go_ret;exact⟨rfl,by rw[<-HW.out];exact B0.out.bel⟩
 have h1a:decide ((n':Int)<1)=false:=decide_eq_false (by omega)
 have h1b:decide (n'<1)=false:=decide_eq_false (by omega)
 by_cases h2:8<n'
 ·obtain rfl: r = false:=HRN.out fun h => by have:=h.1.2; have:=HO.out; omega
  have h2a:decide ((8:Int)<(n':Int))=true:=decide_eq_true (by omega)
  have h2b:decide (8<n')=true:=decide_eq_true (by omega)
  go_enter Tryz.func87,Tryz.ntmps87;go_wp2;go_ret;exact⟨rfl,by rw[<-HW.out];exact B0.out.bel⟩
 have h2a:decide ((8:Int)<(n':Int))=false:=decide_eq_false (by omega)
 have h2b:decide (8<n')=false:=decide_eq_false (by omega)
 have hn1:1<=n':=by omega
 have hn8:n'<=8:=by omega
 clear h1 h2;go_enter Tryz.func87,Tryz.ntmps87;go_wp2;rw[<-HW.out];clear HW;go_wp2;go_loopw [18] (fun i wr=> ∃j:Nat,j<=n'/\i= .int .i64 j/\Hid (∀(i:Nat) (x:Int),i<j->O[i]? =some x->x= -1\/((0<=x/\x<L.length)/\leftC L x≠0/\x∉O.take i))/\Hid (BxK w A' n' c' F' m' d' O L wr)) (fun i _=>n' - (intOf i).toNat)
 case atStart=>exact⟨0,Nat.zero_le _,rfl,Lib.hid (fun i x hi=>absurd hi (by omega)),B0⟩
 case round=>
  obtain⟨j,hj,rfl,HE,HB⟩:=hrel;clear B0 q0 q1;have q0:=HB.out.c0;have q1:=HB.out.c1
  by_cases hlt:j<n'
  ·obtain ⟨bk,off,x,rfl,hbk,hxk,d1⟩:=HB.out.k.on.at_ (k:=j) (by rw [HO.out]; exact hlt)
   have HXK:=Lib.hid hxk;have HXN:Hid (OnOk O L->x= -1\/((0<=x/\x<L.length)/\leftC L x≠0/\x∉O.take j)):=Lib.hid (fun h=>h.2 j x hxk)
   clear hxk hbk
   by_cases x2:x= -1
   ·subst x2
    have HE2:Hid (∀(i:Nat) (x:Int),i<j+1->O[i]? =some x->x= -1\/((0<=x/\x<L.length)/\leftC L x≠0/\x∉O.take i)):=Lib.hid (fun i x hi hx=>by
     rcases Nat.lt_or_ge i j with h|h
     ·exact HE.out i x h hx
     ·obtain rfl: i = j:=by omega
      rw[HXK.out]at hx;exact .inl (Option.some.inj hx).symm)
    go_wp2;go_roundw
    case rel=>exact⟨j+1,by omega,by go_num,HE2,HB⟩
    case measure=>simp[intOf];omega
   have x2a:(x== -1)=false:=beq_eq_false_iff_ne.mpr x2
   by_cases x1:x<0
   ·obtain rfl: r = false:=HRN.out fun h => by rcases HXN.out h with q | ⟨q,_⟩ <;> omega
    have x1a:decide (x<0)=true:=decide_eq_true x1;go_wp2;go_ret;exact⟨rfl,HB.out.bel⟩
   have x1a:decide (x<0)=false:=decide_eq_false x1;have HNE:=Lib.hid x2;obtain⟨q,rfl⟩: ∃q:Nat,x=q:=⟨x.toNat,by omega⟩
   clear x1 x2
   by_cases x3:m'<=q
   ·obtain rfl: r = false:=HRN.out fun h => by rcases HXN.out h with q | ⟨q,_⟩ <;> have:=HM.out <;> omega
    have x3a:decide ((m':Int)<=(q:Int))=true:=decide_eq_true (by omega)
    have x3b:decide (m'<=q)=true:=decide_eq_true (by omega)
    go_wp2;go_ret
    exact⟨rfl,HB.out.bel⟩
   have x3a:decide ((m':Int)<=(q:Int))=false:=decide_eq_false (by omega)
   have x3b:decide (m'<=q)=false:=decide_eq_false (by omega)
   have hqm:q<m':=by omega
   clear x3;obtain⟨b2,off2,y,rfl,hbg2,hy,d2⟩:=HB.out.k.left.at_ (k:=q) (by rw[HM.out];exact hqm)
   have HY:Hid (leftC L (q:Int)=y):=Lib.hid (leftC_at hy);clear hy hbg2
   by_cases hy1:y=0
   ·obtain rfl: r = false:=HRN.out fun h => by
     rcases HXN.out h with q1|⟨_,q2,_⟩
     ·exact HNE.out q1
     ·exact q2 (HY.out.trans hy1)
    subst hy1;go_wp2;go_ret;exact⟨rfl,HB.out.bel⟩
   have hy1a:(y==0)=false:=beq_eq_false_iff_ne.mpr hy1;have HY1:=Lib.hid hy1;clear hy1;have hjc:j<=c':=by omega
   have C3:=Lib.hid (contains_any (some ⟨bk,off,none⟩) c' j (O.take j) (q:Int) wr.heap.size wr (by rw[List.length_take,HO.out];omega) (by omega) (HB.out.k.on.take j))
   by_cases hm:(q:Int)∈O.take j
   ·obtain rfl: r = false:=HRN.out fun h => by
     rcases HXN.out h with q1|⟨_,_,q2⟩
     ·exact HNE.out q1
     ·exact q2 hm
    rw[decide_eq_true hm]at C3;clear hm;go_wp2_with fail;refine C3.out.mono ?_
    rintro e w3 ⟨rfl,rfl⟩;go_wp2;go_ret;exact⟨rfl,HB.out.bel⟩
   ·have HE2: Hid (∀ (i: Nat) (x: Int),i < j + 1 -> O[i]? = some x -> x = -1 \/ ((0 <= x /\ x < L.length) /\ leftC L x ≠ 0 /\ x ∉ O.take i)):=Lib.hid (fun i x hi hx => by
     rcases Nat.lt_or_ge i j with h|h
     ·exact HE.out i x h hx
     ·obtain rfl: i = j:=by omega
      rw[HXK.out]at hx;obtain rfl:(q:Int)=x:=Option.some.inj hx;exact .inr ⟨⟨by omega,by have:=HM.out;omega⟩,by rw[HY.out];exact HY1.out,hm⟩)
    rw[decide_eq_false hm]at C3;clear hm;go_wp2_with fail;refine C3.out.mono ?_
    rintro e w3 ⟨rfl,rfl⟩;go_wp2;go_roundw
    case rel=>exact⟨j+1,by omega,by go_num,HE2,HB⟩
    case measure=>simp[intOf];omega
  ·obtain rfl: n' = j:=by omega
   obtain rfl:r=true:=HRY.out ⟨⟨by have:=HO.out;omega,by have:=HO.out;omega⟩,fun i x hx=>HE.out i x (by have:=(List.getElem?_eq_some_iff.1 hx).1;have:=HO.out;omega) hx⟩
   go_wp2;go_ret
   exact⟨rfl,HB.out.bel⟩
open Classical in
theorem tooEarly_any(w:World)(hg:IsG w A n c F m d W E)(hk:IsC w A' n' c' F' m' d' O L)(hF:Fits W.length E)(h64:W.length<=64)(hL:L.length=W.length):
  Calls Tryz.prog 88 #[.agg #[.slice A n c,.slice F m d],.agg #[.slice A' n' c',.slice F' m' d']] w fun e w'=>e= .returned (.bool (decide (Early E O L)))/\Below w.heap.size w w':=by
 obtain⟨w0,hw0⟩: ∃w0,w0=(w.alloc (.cells #[.slice A n c,.slice F m d] 25)).alloc (.cells #[.slice A' n' c',.slice F' m' d'] 37):=⟨_,rfl⟩;have B0:Hid (BxDC w A n c F m d W E A' n' c' F' m' d' O L w0):=Lib.hid (by rw[hw0];exact BxDC.start hg hk)
 have HW:=Lib.hid hw0;have HO:=Lib.hid hk.hn;have HM:=Lib.hid hk.hm;have ln:=hk.ln;have hm64:m'<=64:=by have:=hk.hm;omega
 have CW:=Lib.hid (waiting_any (q:=d') w0 B0.out.g hF h64 B0.out.k.hm hL B0.out.k.left);obtain⟨r,hr⟩: ∃r,r=decide (Early E O L):=⟨_,rfl⟩;rw[<-hr];have HRN:Hid (¬Early E O L->r=false):=Lib.hid (fun h=>by rw[hr];exact decide_eq_false h)
 have HRY:Hid (Early E O L->r=true):=Lib.hid (fun h=>by rw[hr];exact decide_eq_true h)
 clear hg hk hF hL h64 hw0 hr;have p0:=B0.out.d0;have p1:=B0.out.d1;have q0:=B0.out.c0;have q1:=B0.out.c1;go_enter Tryz.func88,Tryz.ntmps88;go_wp2_with fail;rw[<-HW.out];clear HW;go_wp2_with fail;refine CW.out.mono ?_
 rintro e w1 ⟨g,rfl,hwb,hg,b1⟩;have B1:Hid (BxDC w A n c F m d W E A' n' c' F' m' d' O L w1/\WaitB g E L w1):=Lib.hid ⟨B0.out.next b1,hwb⟩;clear hwb hg b1 B0 CW p0 p1 q0 q1;have q0:=B1.out.1.c0;have q1:=B1.out.1.c1;go_wp2;go_loopw [15] (fun i wr=> ∃j:Nat,j<=m'/\i= .int .i64 j/\Hid (∀i:Nat,i<j-> ¬EarlyAt E O L i)/\Hid (BxDC w A n c F m d W E A' n' c' F' m' d' O L wr/\WaitB g E L wr)) (fun i _=>m' - (intOf i).toNat)
 case atStart=>exact⟨0,Nat.zero_le _,rfl,Lib.hid (fun i hi=>absurd hi (by omega)),B1⟩
 case round=>
  obtain⟨j,hj,rfl,HE,HB⟩:=hrel;clear B1 q0 q1;have q0:=HB.out.1.c0;have q1:=HB.out.1.c1
  by_cases hlt:j<m'
  ·obtain ⟨bk,off,y,rfl,hbk,hy,d1⟩:=HB.out.1.k.left.at_ (k:=j) (by rw [HM.out]; exact hlt)
   have HY:Hid (leftC L (j:Int)=y):=Lib.hid (leftC_at hy);have C1:=Lib.hid (waits_any j wr HB.out.2 (by omega))
   clear hy hbk;have HST:Hid (¬EarlyAt E O L j-> ∀i:Nat,i<j+1-> ¬EarlyAt E O L i):=Lib.hid (fun h i hi=>by
    rcases Nat.lt_or_ge i j with h1|h1
    ·exact HE.out i h1
    ·obtain rfl: i = j:=by omega
     exact h)
   have HYES:Hid (EarlyAt E O L j->r=true):=Lib.hid (fun h=>HRY.out ⟨j,by rw[HM.out];exact hlt,h⟩)
   by_cases ho:OverC E L (j:Int)
   ·have HNX:=Lib.hid (HST.out fun q => q.1 ho)
    rw[decide_eq_false (fun q=>q ho)]at C1
    clear ho
    go_wp2_with(go_at_call 137;refine C1.out.mono ?_;rintro e w' ⟨rfl,rfl⟩)
    go_roundw
    case rel=>exact⟨j+1,by omega,by go_num,HNX,HB⟩
    case measure=>simp[intOf];omega
   ·have HOV:=Lib.hid ho
    rw[decide_eq_true ho]at C1;clear ho
    by_cases hy0:y=0
    ·obtain rfl: r = true:=HYES.out ⟨HOV.out,.inl (HY.out.trans hy0)⟩
     subst hy0
     go_wp2_with(go_at_call 137;refine C1.out.mono ?_;rintro e w' ⟨rfl,rfl⟩)
     go_ret;exact⟨rfl,HB.out.1.bel⟩
    ·have hy0a: (y == 0) = false:=beq_eq_false_iff_ne.mpr hy0
     have HY0:=Lib.hid hy0;have C2:=Lib.hid (contains_any A' c' n' O (j:Int) wr.heap.size wr HO.out (by omega) HB.out.1.k.on)
     clear hy0
     by_cases hm:(j:Int)∈O
     ·obtain rfl: r = true:=HYES.out ⟨HOV.out,.inr hm⟩
      rw[decide_eq_true hm]at C2;clear hm
      go_wp2_with(first|(go_at_call 137;refine C1.out.mono ?_;rintro e w' ⟨rfl,rfl⟩)|(refine C2.out.mono ?_;rintro e w' ⟨rfl,rfl⟩))
      go_ret;exact⟨rfl,HB.out.1.bel⟩
     ·have HNX:=Lib.hid (HST.out fun q => by
       rcases q.2 with q2|q2
       ·exact HY0.out (HY.out.symm.trans q2)
       ·exact hm q2)
      rw[decide_eq_false hm]at C2;clear hm
      go_wp2_with(first|(go_at_call 137;refine C1.out.mono ?_;rintro e w' ⟨rfl,rfl⟩)|(refine C2.out.mono ?_;rintro e w' ⟨rfl,rfl⟩))
      go_roundw
      case rel=>exact⟨j+1,by omega,by go_num,HNX,HB⟩
      case measure=>simp[intOf];omega
  ·obtain rfl: m' = j:=by omega
   obtain rfl:r=false:=HRN.out fun⟨i,hi,h⟩=>HE.out i (by rw[<-HM.out];exact hi) h
   go_wp2;go_ret
   exact⟨rfl,HB.out.1.bel⟩
open Classical in
theorem ccheck_any(w:World)(hg:IsG w A n c F m d W E)(hk:IsC w A' n' c' F' m' d' O L):
  Calls Tryz.prog 48 #[.agg #[.slice A n c,.slice F m d],.agg #[.slice A' n' c',.slice F' m' d']] w fun e w'=>e= .returned (.int .i64 (crewE W E O L))/\Below w.heap.size w w':=by
 obtain⟨w0,hw0⟩: ∃w0,w0=(w.alloc (.cells #[.slice A n c,.slice F m d] 25)).alloc (.cells #[.slice A' n' c',.slice F' m' d'] 37):=⟨_,rfl⟩;have B0:Hid (BxDC w A n c F m d W E A' n' c' F' m' d' O L w0):=Lib.hid (by rw[hw0];exact BxDC.start hg hk)
 have HW:=Lib.hid hw0;have CK:=Lib.hid (check_done w0 B0.out.g);have lm:=hk.lm;have hW:=hg.hn;obtain⟨r,hr⟩: ∃r,r=crewE W E O L:=⟨_,rfl⟩;rw[<-hr];have HR:=Lib.hid hr;clear hw0 hr;have p0:=B0.out.d0;have p1:=B0.out.d1;have q0:=B0.out.c0;have q1:=B0.out.c1
 by_cases he:chkE W E=0
 ·have hM:=chkE_zero.mp he
  have C1:=Lib.hid (fun(W':World) (hb:Below w.heap.size w W')=>rightLeft_any (A:=A) (c:=c) (F:=F) (m:=m) (d:=d) (W:=W) (nc:=d') W' hk.hm (by omega) hW ((hk.left.below hb).more hb.size))
  have C2:=Lib.hid (fun(W':World) (hb:Below w.heap.size w W')=>rightOn_any W' (hk.below hb))
  have C3:=Lib.hid (fun(hL:L.length=W.length) (W':World) (hb:Below w.heap.size w W')=>tooEarly_any W' (hg.below hb) (hk.below hb) hM.fits hM.nodes hL)
  rw[he]at CK;have HRV:Hid (r=if LeftOk W L/\OnOk O L/\ ¬Early E O L then 0 else 110):=Lib.hid (by
   rw[HR.out]
   by_cases h:CrewOk W.length E O L
   ·rw[if_pos (crew_parts.mp h)];exact crewE_zero.mpr ⟨hM,h⟩
   ·rw[if_neg (fun q=>h (crew_parts.mpr q))];exact crewE_form he h)
  clear hg hk hM HR he hW lm
  by_cases h1:LeftOk W L
  ·rw [decide_eq_true h1] at C1
   by_cases h2:OnOk O L
   ·rw [decide_eq_true h2] at C2
    have C4:=Lib.hid (C3.out h1.1);clear C3
    by_cases h3:Early E O L
    ·rw [decide_eq_true h3] at C4
     obtain rfl:r=110:=by rw[HRV.out,if_neg (fun q=>q.2.2 h3)]
     clear h1 h2 h3;go_enter Tryz.func48,Tryz.ntmps48;go_wp2_with fail;rw[<-HW.out];refine CK.out.mono ?_
     rintro e w1 ⟨rfl,b1⟩;have B1:=Lib.hid (B0.out.next b1);clear b1 B0 CK p0 p1 q0 q1;have p0:=B1.out.d0;have p1:=B1.out.d1;have q0:=B1.out.c0;have q1:=B1.out.c1;go_wp2_with fail;refine(C1.out _ B1.out.bel).mono ?_
     rintro e w2 ⟨rfl,b1⟩;have B2:=Lib.hid (B1.out.next b1);clear b1 B1 p0 p1 q0 q1;have p0:=B2.out.d0;have p1:=B2.out.d1;have q0:=B2.out.c0;have q1:=B2.out.c1;go_wp2_with fail;refine(C2.out _ B2.out.bel).mono ?_
     rintro e w3 ⟨rfl,b1⟩;have B3:=Lib.hid (B2.out.next b1);clear b1 B2 p0 p1 q0 q1;have p0:=B3.out.d0;have p1:=B3.out.d1;have q0:=B3.out.c0;have q1:=B3.out.c1;go_wp2_with fail;refine(C4.out _ B3.out.bel).mono ?_
     rintro e w4 ⟨rfl,b1⟩;have B4:=Lib.hid (B3.out.next b1);clear b1 B3 p0 p1 q0 q1;go_wp2;go_ret;exact⟨rfl,B4.out.bel⟩
    ·rw [decide_eq_false h3] at C4
     obtain rfl:r=0:=by rw[HRV.out,if_pos ⟨h1,h2,h3⟩]
     clear h1 h2 h3;go_enter Tryz.func48,Tryz.ntmps48;go_wp2_with fail;rw[<-HW.out];refine CK.out.mono ?_
     rintro e w1 ⟨rfl,b1⟩;have B1:=Lib.hid (B0.out.next b1);clear b1 B0 CK p0 p1 q0 q1;have p0:=B1.out.d0;have p1:=B1.out.d1;have q0:=B1.out.c0;have q1:=B1.out.c1;go_wp2_with fail;refine(C1.out _ B1.out.bel).mono ?_
     rintro e w2 ⟨rfl,b1⟩;have B2:=Lib.hid (B1.out.next b1);clear b1 B1 p0 p1 q0 q1;have p0:=B2.out.d0;have p1:=B2.out.d1;have q0:=B2.out.c0;have q1:=B2.out.c1;go_wp2_with fail;refine(C2.out _ B2.out.bel).mono ?_
     rintro e w3 ⟨rfl,b1⟩;have B3:=Lib.hid (B2.out.next b1);clear b1 B2 p0 p1 q0 q1;have p0:=B3.out.d0;have p1:=B3.out.d1;have q0:=B3.out.c0;have q1:=B3.out.c1;go_wp2_with fail;refine(C4.out _ B3.out.bel).mono ?_
     rintro e w4 ⟨rfl,b1⟩;have B4:=Lib.hid (B3.out.next b1);clear b1 B3 p0 p1 q0 q1;go_wp2;go_ret;exact⟨rfl,B4.out.bel⟩
   ·rw [decide_eq_false h2] at C2
    obtain rfl:r=110:=by rw[HRV.out,if_neg (fun q=>h2 q.2.1)]
    clear h1 h2 C3;go_enter Tryz.func48,Tryz.ntmps48;go_wp2_with fail;rw[<-HW.out];refine CK.out.mono ?_
    rintro e w1 ⟨rfl,b1⟩;have B1:=Lib.hid (B0.out.next b1);clear b1 B0 CK p0 p1 q0 q1;have p0:=B1.out.d0;have p1:=B1.out.d1;have q0:=B1.out.c0;have q1:=B1.out.c1;go_wp2_with fail;refine(C1.out _ B1.out.bel).mono ?_
    rintro e w2 ⟨rfl,b1⟩;have B2:=Lib.hid (B1.out.next b1);clear b1 B1 p0 p1 q0 q1;have p0:=B2.out.d0;have p1:=B2.out.d1;have q0:=B2.out.c0;have q1:=B2.out.c1;go_wp2_with fail;refine(C2.out _ B2.out.bel).mono ?_
    rintro e w3 ⟨rfl,b1⟩;have B3:=Lib.hid (B2.out.next b1);clear b1 B2 p0 p1 q0 q1;go_wp2;go_ret;exact⟨rfl,B3.out.bel⟩
  ·rw [decide_eq_false h1] at C1
   obtain rfl:r=110:=by rw[HRV.out,if_neg (fun q=>h1 q.1)]
   clear h1 C2 C3;go_enter Tryz.func48,Tryz.ntmps48;go_wp2_with fail;rw[<-HW.out];refine CK.out.mono ?_
   rintro e w1 ⟨rfl,b1⟩;have B1:=Lib.hid (B0.out.next b1);clear b1 B0 CK p0 p1 q0 q1;have p0:=B1.out.d0;have p1:=B1.out.d1;have q0:=B1.out.c0;have q1:=B1.out.c1;go_wp2_with fail;refine(C1.out _ B1.out.bel).mono ?_
   rintro e w2 ⟨rfl,b1⟩;have B2:=Lib.hid (B1.out.next b1);clear b1 B1 p0 p1 q0 q1;go_wp2;go_ret;exact⟨rfl,B2.out.bel⟩
 ·have heb: (chkE W E != 0) = true:=bne_iff_ne.mpr he
  obtain⟨z,hz⟩: ∃z,z=chkE W E:=⟨_,rfl⟩;obtain rfl:r=z:=by rw[HR.out,hz];exact crewE_bad he
  rw[<-hz]at heb CK;clear hg hk HR he hz hW lm;go_enter Tryz.func48,Tryz.ntmps48;go_wp2_with fail;rw[<-HW.out];refine CK.out.mono ?_
  rintro e w1 ⟨rfl,b1⟩;have B1:=Lib.hid (B0.out.next b1);clear b1 B0 CK;go_wp2;go_ret;exact⟨rfl,B1.out.bel⟩
end
end Go.Proofs.YtngdbbligebcbabGreatDoor
namespace Go.Proofs.YtngdbbligebcbabGreatDoor
open Go Go.RowKit
theorem info_partsC{P:Program}{t:TypeId}{z:Value}{s b:Nat}(h:(P.info? t).map (fun i=>(i.zero,i.size,i.bytes))=some (some z,s,b)): ∃i,P.info? t=some i/\i.zero=some z/\i.size=s/\i.bytes=b:=by
  cases hi:P.info? t with
  |none=>rw[hi]at h;cases h
  | some i =>
    rw[hi]at h;simp at h;exact⟨i,rfl,h.1,h.2.1,h.2.2⟩
theorem other_ownC{w w':World}{base:Nat}{e t:TypeId}{s n g:Nat}{v:Value}{xs:List Value}{cs:Array Value}(h:w.ownsRow base e s v n xs)(hg:w.heap[g]? =some (.cells cs t (0,0)))(ht:e≠t)(hk: ∀k,k≠g->w'.heap[k]? =w.heap[k]?):w'.ownsRow base e s v n xs:=by
 refine⟨h.1,?_⟩
 rcases h.2 with hn|⟨g',cap,cur,rfl,hg',hgg,rest⟩
 ·exact .inl hn
 ·refine .inr ⟨g',cap,cur,rfl,hg',?_,rest⟩
  rw[hk g' (fun e1=>by
   subst e1;rw[hg]at hgg;injection hgg with hgg;injection hgg with _ h2 _;exact ht h2.symm)]
  exact hgg
def NewR(t:TypeId)(w:World)(base:Nat)(v:Value):Prop:=∃ g,v= .slice (some ⟨g,0,none⟩) 0 0/\w.heap[g]? =some (.cells #[] t (0,0))/\base<=g
theorem NewR.below{t:TypeId}{w w':World}{base:Nat}{v:Value}(h:NewR t w base v)(hb:Below w.heap.size w w'):NewR t w' base v:=by
 obtain⟨g,e,hg,hl⟩:=h;exact⟨g,e,by rw[hb.block _ (Array.getElem?_eq_some_iff.1 hg).1];exact hg,hl⟩
theorem newR_here(t:TypeId)(w:World)(base:Nat)(hb:base<=w.heap.size):NewR t (w.alloc (.cells #[] t)) base (.slice (some ⟨w.heap.size,0,none⟩) 0 0):=⟨_,rfl,heap_alloc_new w _,hb⟩
theorem row_setC{w:World}{g:Nat}{t:TypeId}{x y:Value}(h:w.heap[g]? =some (.cells #[x,y] t (0,0)))(a b:Value):((w.setCell ⟨g,0,none⟩ a).setCell ⟨g,1,none⟩ b).heap[g]? =some (.cells #[a,b] t (0,0)):=by
 have h1:=heap_setCell_same w g 0 _ _ a h;have h2:=heap_setCell_same _ g 1 _ _ b h1
 simpa using h2
theorem below_setC{w:World}{B g:Nat}(hg:B<=g)(a b:Value):Below B w ((w.setCell ⟨g,0,none⟩ a).setCell ⟨g,1,none⟩ b):=((Below.refl B w).setCell hg a).setCell hg b
theorem size_setC(w:World)(g:Nat)(a b:Value):((w.setCell ⟨g,0,none⟩ a).setCell ⟨g,1,none⟩ b).heap.size=w.heap.size:=by simp[World.setCell]
theorem other_setC(w:World)(g:Nat)(a b:Value): ∀k,k≠g->((w.setCell ⟨g,0,none⟩ a).setCell ⟨g,1,none⟩ b).heap[k]? =w.heap[k]?:=fun k hk=>by rw[heap_setCell_other _ _ _ _ hk,heap_setCell_other _ _ _ _ hk]
theorem ox_storeC{o:Oper}{a:Act}{x:World}{K:Act->World->Prop}{Q:Exit->Act->World->Prop}{s y:Operand}{g:Nat}{u v u0 v0:Value}(hop:o.op= .store 37 s y)(hdst:o.dst=none)
  (hs:a.eval s= .pointer (some ⟨g,0,none⟩)) (hy:a.eval y= .agg #[u,v]) (h1: ∃A n c F m d,u= .slice A n c/\v= .slice F m d) (hg:x.heap[g]? =some (.cells #[u0,v0] 37 (0,0)))
  (hK:K a ((x.setCell ⟨g,0,none⟩ u).setCell ⟨g,1,none⟩ v)):o.wp Tryz.prog a x K Q:=by
 obtain⟨A,n,c,F,m,d,rfl,rfl⟩:=h1;have d0:=cell_of_row x g 0 _ _ _ hg;have z0:=frozen_of_row x g 0 _ _ hg;have d1:=cell_of_row x g 1 _ _ _ hg;have z1:=frozen_of_row x g 1 _ _ hg;have hg1:=heap_setCell_same x g 0 _ _ (.slice A n c) hg;have d1':=cell_of_row _ g 1 _ _ _ hg1;have z1':=frozen_of_row _ g 1 _ _ hg1;simp at d0 d1 d1';have hr:(execOp a.eval o).run Tryz.prog x= .ok .skip ((x.setCell ⟨g,0,none⟩ (.slice A n c)).setCell ⟨g,1,none⟩ (.slice F m d)):=by
  simp only[execOp,hop];rw[hs,hy];simp[go_sem,d0,z0,d1',z1']
 unfold Oper.wp;rw[hr,Oper.upon_skip,hdst];exact hK
theorem own_isC{w:World}{b:Nat}{A:Option Addr}{n c:Nat}{F:Option Addr}{m d:Nat}{O L:List Int}(hu:OwnI w b (.slice A n c) O)(hv:OwnI w b (.slice F m d) L)(hn:O.length=n)(hm:L.length=m)(l1:n<=400)(l2:m<=400):IsC w A n c F m d O L:=
 ⟨hn,hm,l1,l2,hu.ints,hv.ints,fun e=>by subst e;exact hu.none_nil,fun e=>by subst e;exact hv.none_nil,by
  rcases hu.2 with⟨hv,hn⟩|⟨g,cap,cur,hv,hg,hgg,hle,_⟩
  ·injection hv with _ h1 h2
   omega
  ·injection hv with _ h1 h2
   omega⟩
structure OwnC(w:World)(b:Nat)(A:Option Addr)(n c:Nat)(F:Option Addr)(m d:Nat)(O L:List Int):Prop where
 on:OwnI w b (.slice A n c) O
 left:OwnI w b (.slice F m d) L
 hn:O.length=n
 hm:L.length=m
 ln:n<=400
 lm:m<=400
theorem OwnC.isC{w:World}{b:Nat}{A:Option Addr}{n c:Nat}{F:Option Addr}{m d:Nat}{O L:List Int}(h:OwnC w b A n c F m d O L):IsC w A n c F m d O L:=own_isC h.on h.left h.hn h.hm h.ln h.lm
theorem OwnC.next{w w':World}{b:Nat}{A:Option Addr}{n c:Nat}{F:Option Addr}{m d:Nat}{O L:List Int}(h:OwnC w b A n c F m d O L)(hb:Below w.heap.size w w'):OwnC w' b A n c F m d O L:=⟨own_below h.on hb,own_below h.left hb,h.hn,h.hm,h.ln,h.lm⟩
theorem OwnC.down{w:World}{b b':Nat}{A:Option Addr}{n c:Nat}{F:Option Addr}{m d:Nat}{O L:List Int}(h:OwnC w b A n c F m d O L)(hb:b'<=b):OwnC w b' A n c F m d O L:=⟨h.on.down hb,h.left.down hb,h.hn,h.hm,h.ln,h.lm⟩
theorem noOwnC(w:World)(b:Nat):OwnC w b none 0 0 none 0 0 [] []:=⟨⟨rfl,.inl ⟨rfl,rfl⟩⟩,⟨rfl,.inl ⟨rfl,rfl⟩⟩,rfl,rfl,by decide,by decide⟩
section
variable {P: Program} {ops: Array Oper} {Q: Exit -> Act -> World -> Prop}
theorem wp_region_stored3(p:Nat)(ds S:List Nat)(base q1 q2:Nat){id:Nat}{a0:Act}{w0:World}(hm:P.follows .mixedOrders=true)(hG:storedB ops p ds S=true)(hsz: ∀d∈ds,d<a0.tmps.size\/1000<=d)
    (I:World->Prop) (Φ:Nat->Value->World->Prop) (Θ:(Nat->Value)->World->Prop) (Ψ:Value->Value->World->Prop)
    (hq:q1≠q2/\q1≠p/\q2≠p/\q1∉S/\q2∉S/\q1<ds.length/\q2<ds.length) (hqe: ∀o,ops[q2]? =some o-> ∃e∈o.after,e.on=q1/\Region.binds .any e=true)
    (hΨ: ∀u v w w',Ψ u v w->Below w.heap.size w w'->Ψ u v w')
    (hI: ∀w w',I w->Below w.heap.size w w'->I w') (hΦ: ∀k v w w',Φ k v w->Below w.heap.size w w'->Φ k v w')
    (h0:I {w0 with drawn:=w0.drawn+1})
    (hstep: ∀(k:Nat) (o:Oper),k≠p->k∉S->ops[k]? =some o-> ∀(a:Act) (w:World),I w->AtDoor a0 ds a.eval->(∀e∈o.after,Region.binds .any e=true->Φ e.on (a.eval (.tmp (ds.getD e.on 0))) w)->(∀e∈o.after,Region.binds .any e=true->e.on=q2->Ψ (a.eval (.tmp (ds.getD q1 0))) (a.eval (.tmp (ds.getD q2 0))) w)->
      ∀K:Act->World->Prop,(∀v w',Φ k v w'->Below w.heap.size w w'->(k=q2->Ψ (a.eval (.tmp (ds.getD q1 0))) v w')->K (a.put o.dst v) w')->o.wp P a w K Q)
    (hside: ∀(k:Nat) (o:Oper),k∈S->ops[k]? =some o-> ∀(ρ:Operand->Value) (w:World),base<=w.heap.size->AtDoor a0 ds ρ->(∀e∈o.after,Region.binds .any e=true->e.on≠p-> ∃w1,Φ e.on (ρ (.tmp (ds.getD e.on 0))) w1/\(e.on∈S->w1=w))->
      ∃v w',(execOp ρ o).run P w= .ok (.value v) w'/\Φ k v w'/\Below w.heap.size w w')
    (hstore: ∀(o:Oper),ops[p]? =some o-> ∀(a:Act) (w:World),I w->AtDoor a0 ds a.eval->(∀k,k<ds.length->k≠p->k∉S->Φ k (a.eval (.tmp (ds.getD k 0))) w)->Ψ (a.eval (.tmp (ds.getD q1 0))) (a.eval (.tmp (ds.getD q2 0))) w->
      ∀K:Act->World->Prop,(∀w',Θ (fun t=>a.eval (.tmp t)) w'->base<=w'.heap.size->(∀k,k∈S-> ∀v,Φ k v w->Φ k v w')->K a w')->o.wp P a w K Q)
    (hΘ: ∀(f g:Nat->Value) w,(∀k,k<ds.length->k≠p->k∉S->f (ds.getD k 0)=g (ds.getD k 0))->Θ f w->Θ g w)
    (hΘb: ∀(f:Nat->Value) w w',Θ f w->Below w.heap.size w w'->Θ f w') (hbase:base<=w0.heap.size)
    (hend: ∀(vals:Nat->Value) (w:World),Θ vals w->(∀k,k<ds.length->k≠p-> ∃w',Φ k (vals (ds.getD k 0)) w'/\(k∈S->w'=w))->Q .normal ⟨(fillA a0 ds vals).toArray,a0.defers⟩ w):
    (Code.region id ops true).wp P Q a0 w0:=by
  have G:=stored_of hG;refine wp_region_inv (fun l a w=>l.size=ds.length/\AtDoor a0 ds a.eval/\a.tmps.size=a0.tmps.size/\a.defers=a0.defers/\
    (∀(i:Nat) (o:Oper),l.getD i false=true->ops[i]? =some o-> ∀e∈o.after,Region.binds .any e=true->l.getD e.on false=true)/\
    base<=w.heap.size/\
    ((l.getD p false = false /\ I w /\ (l.getD q2 false = true -> Ψ (a.eval (.tmp (ds.getD q1 0))) (a.eval (.tmp (ds.getD q2 0))) w) /\ ∀ k, k < ds.length -> k ≠ p -> l.getD k false = true -> Φ k (a.eval (.tmp (ds.getD k 0))) w) \/
     (l.getD p false=true/\Θ (fun t=>a.eval (.tmp t)) w/\ ∀k,k<ds.length->k≠p->l.getD k false=true-> ∃w',Φ k (a.eval (.tmp (ds.getD k 0))) w'/\(k∈S->w'=w)))) hm ?_ ?_ ?_
  · have hno: ∀k,¬(Array.replicate ops.size false).getD k false=true:=fun k h=>by
      by_cases h2:k<ops.size<;>simp[h2]at h
    refine⟨by rw[Array.size_replicate];exact G.size,atDoor_start a0 ds,rfl,rfl,fun k o h=>absurd h (hno k),hbase, .inl ⟨?_,h0,fun h=>absurd h (hno q2),fun k hk hkp h=>absurd h (hno k)⟩⟩
    cases h:(Array.replicate ops.size false).getD p false with
    |false=>rfl
    |true=>exact absurd h (hno p)
  · rintro l a w i ⟨hls,hAD,hasz,hadf,hcl,hbw,hV⟩ hi;obtain⟨hun,o,ho,hpre⟩:=mem_ready.1 hi;have hilt:i<ops.size:=(Array.getElem?_eq_some_iff.1 ho).1
    have hin:i<ds.length:=by rw[<-G.size];exact hilt
    have hil:i<l.size:=by omega
    have hun2:l.getD i false=false:=by
      cases h:l.getD i false with
      |false=>rfl
      |true=>simp[hil]at h hun;rw[h]at hun;cases hun
    have hcl2: ∀(k:Nat) (o':Oper),(l.setIfInBounds i true).getD k false=true->ops[k]? =some o'-> ∀e∈o'.after,Region.binds .any e=true->(l.setIfInBounds i true).getD e.on false=true:=fun k o' hk ho' e he hb=>by
      refine(getD_set_iff hil).mpr (.inr ?_)
      rcases listed_set hk with h|h
      · subst h;rw[ho]at ho';obtain rfl:=Option.some.inj ho';exact hpre e he hb
      · exact hcl k o' h ho' e he hb
    have hls2:(l.setIfInBounds i true).size=ds.length:=by rw[Array.size_setIfInBounds];exact hls
    refine wpOp_at ho (G.guard i o ho) ?_
    by_cases hip:i=p
    · subst hip;rcases hV with⟨hnl,hIw,hPs,hF⟩|⟨hnl,_⟩
      · have hall: ∀k,k<ds.length->k≠i->k∉S->l.getD k false=true:=fun k hk hkp hkS=>waits_done hcl 12 i k (G.last k hk hkp hkS) (fun o' ho' e he hb=>by
          rw[ho]at ho';obtain rfl:=Option.some.inj ho';exact hpre e he hb)
        refine hstore o ho a w hIw hAD (fun k hk hkp hkS=>hF k hk hkp (hall k hk hkp hkS)) (hPs (hall q2 hq.2.2.2.2.2.2 hq.2.2.1 hq.2.2.2.2.1)) _ fun w' hT hbw' hkeep=> ?_
        refine⟨hls2,hAD,hasz,hadf,hcl2,hbw', .inr ⟨(getD_set_iff hil).mpr (.inl rfl),hT,fun k hk hkp hkl=> ?_⟩⟩
        have hf:=hF k hk hkp ((listed_set hkl).resolve_left hkp)
        by_cases hkS:k∈S
        · exact⟨w',hkeep k hkS _ hf,fun _=>rfl⟩
        · exact⟨w,hf,fun h=>absurd h hkS⟩
      · rw[hun2]at hnl;cases hnl
    · obtain⟨hd,hdl⟩:=G.dst i o hip ho;have hdm:=fds_mem hin;have hdz:ds.getD i 0<a.tmps.size:=by
        rcases hsz _ hdm with h|h
        · rw[hasz];exact h
        · omega
      have hpl: ∀b,l.getD p false=b->(l.setIfInBounds i true).getD p false=b:=fun b hb=>by
        cases h:(l.setIfInBounds i true).getD p false with
        | true =>
          rcases listed_set h with h2|h2
          · exact absurd h2.symm hip
          · rw[<-hb,h2]
        | false =>
          cases b with
          |false=>rfl
          | true =>
            have:=(getD_set_iff (k:=p) hil).mpr (.inr hb);rw[h]at this;cases this
      have hsz2: ∀v,(a.put (some (ds.getD i 0)) v).tmps.size=a0.tmps.size:=fun v=>by
        show(a.tmps.setIfInBounds _ _).size=_
        rw[Array.size_setIfInBounds];exact hasz
      rcases hV with⟨hnl,hIw,hPs,hF⟩|⟨hnl,hT,hF⟩
      · have hdep: ∀e∈o.after,Region.binds .any e=true->Φ e.on (a.eval (.tmp (ds.getD e.on 0))) w:=fun e he hb=>hF e.on (Nat.lt_trans (G.back i o ho e he hb) hin) (fun h=>by
          have:=hpre e he hb;rw[h,hnl]at this;cases this) (hpre e he hb)
        have hnext: ∀v w',Φ i v w'->Below w.heap.size w w'->(i=q2->Ψ (a.eval (.tmp (ds.getD q1 0))) v w')->(l.setIfInBounds i true).size=ds.length/\AtDoor a0 ds (a.put (some (ds.getD i 0)) v).eval/\(a.put (some (ds.getD i 0)) v).tmps.size=a0.tmps.size/\(a.put (some (ds.getD i 0)) v).defers=a0.defers/\
            (∀(k:Nat) (o':Oper),(l.setIfInBounds i true).getD k false=true->ops[k]? =some o'-> ∀e∈o'.after,Region.binds .any e=true->(l.setIfInBounds i true).getD e.on false=true)/\base<=w'.heap.size/\
            (((l.setIfInBounds i true).getD p false = false /\ I w' /\ ((l.setIfInBounds i true).getD q2 false = true -> Ψ ((a.put (some (ds.getD i 0)) v).eval (.tmp (ds.getD q1 0))) ((a.put (some (ds.getD i 0)) v).eval (.tmp (ds.getD q2 0))) w') /\ ∀ k, k < ds.length -> k ≠ p -> (l.setIfInBounds i true).getD k false = true -> Φ k ((a.put (some (ds.getD i 0)) v).eval (.tmp (ds.getD k 0))) w') \/
             ((l.setIfInBounds i true).getD p false=true/\Θ (fun t=>(a.put (some (ds.getD i 0)) v).eval (.tmp t)) w'/\ ∀k,k<ds.length->k≠p->(l.setIfInBounds i true).getD k false=true-> ∃w'',Φ k ((a.put (some (ds.getD i 0)) v).eval (.tmp (ds.getD k 0))) w''/\(k∈S->w''=w'))):=fun v w' hphi hb hps2=>by
          refine⟨hls2,hAD.put hdm v,hsz2 v,hadf,hcl2,Nat.le_trans hbw hb.size, .inl ⟨hpl _ hnl,hI w w' hIw hb,fun hq2l=> ?_,fun k hk hkp hkl=> ?_⟩⟩
          · by_cases hi2:i=q2
            · subst hi2;rw[eval_put_same _ _ _ hdz,eval_put_other _ _ _ _ (fun e=>hq.1 (fds_inj G.nodup hq.2.2.2.2.2.1 hin e))]
              exact hps2 rfl
            · have h2l:=(listed_set hq2l).resolve_left (fun e=>hi2 e.symm)
              have h1l:l.getD q1 false=true:=by
                obtain⟨oq,hoq⟩: ∃oq,ops[q2]? =some oq:=⟨_,Array.getElem?_eq_getElem (by rw[G.size];exact hq.2.2.2.2.2.2)⟩
                obtain⟨e,he,e1,e2⟩:=hqe oq hoq;have:=hcl q2 oq h2l hoq e he e2
                rwa [e1]at this
              have hi1:i≠q1:=fun e=>by
                subst e;rw[hun2]at h1l;cases h1l
              rw[eval_put_other _ _ _ _ (fun e=>hi1 (fds_inj G.nodup hin hq.2.2.2.2.2.1 e.symm)),eval_put_other _ _ _ _ (fun e=>hi2 (fds_inj G.nodup hin hq.2.2.2.2.2.2 e.symm))]
              exact hΨ _ _ _ _ (hPs h2l) hb
          by_cases hki:k=i
          · subst hki;rw[eval_put_same _ _ _ hdz];exact hphi
          · rw[eval_put_other _ _ _ _ (fun e=>hki (fds_inj G.nodup hk hin e))]
            exact hΦ k _ _ _ (hF k hk hkp ((listed_set hkl).resolve_left hki)) hb
        by_cases hiS:i∈S
        · obtain⟨v,w',hr,hphi,hbel⟩:=hside i o hiS ho a.eval w hbw hAD (fun e he hb _=>⟨w,hdep e he hb,fun _=>rfl⟩)
          unfold Oper.wp;rw[hr,Oper.upon_value,hd];exact hnext v w' hphi hbel (fun e=>absurd (e▸hiS) hq.2.2.2.2.1)
        · refine hstep i o hip hiS ho a w hIw hAD hdep (fun e he hb eq=>hPs (by have:=hpre e he hb;rwa [eq]at this)) _ fun v w' hphi hb hps2=> ?_
          rw[hd];exact hnext v w' hphi hb hps2
      · have hall: ∀k,k<ds.length->k≠p->k∉S->l.getD k false=true:=fun k hk hkp hkS=>by
          obtain⟨op,hop⟩: ∃op,ops[p]? =some op:=⟨_,Array.getElem?_eq_getElem (by rw[G.size];exact G.lt)⟩
          exact waits_done hcl 12 p k (G.last k hk hkp hkS) (fun o' ho' e he hb=>hcl p o' hnl ho' e he hb)
        have hiS:i∈S:=Classical.byContradiction fun h=>by
          have:=hall i hin hip h;rw[hun2]at this;cases this
        obtain⟨v,w',hr,hphi,hbel⟩:=hside i o hiS ho a.eval w hbw hAD (fun e he hb hep=>by
          have he2:=hpre e he hb;have hlt:=Nat.lt_trans (G.back i o ho e he hb) hin;exact hF e.on hlt hep he2)
        unfold Oper.wp;rw[hr,Oper.upon_value,hd];refine⟨hls2,hAD.put hdm v,hsz2 v,hadf,hcl2,Nat.le_trans hbw hbel.size, .inr ⟨hpl _ hnl,?_,fun k hk hkp hkl=> ?_⟩⟩
        · refine hΘb _ w w' (hΘ _ _ w (fun k hk hkp hkS=> ?_) hT) hbel
          exact(eval_put_other _ _ _ _ (fun e=>hkS (by rw[fds_inj G.nodup hk hin e];exact hiS))).symm
        · by_cases hki:k=i
          · subst hki;rw[eval_put_same _ _ _ hdz];exact⟨w',hphi,fun _=>rfl⟩
          · rw[eval_put_other _ _ _ _ (fun e=>hki (fds_inj G.nodup hk hin e))]
            obtain⟨w1,h1,h2⟩:=hF k hk hkp ((listed_set hkl).resolve_left hki)
            by_cases hkS:k∈S
            · obtain rfl:=h2 hkS;exact⟨w',hΦ k _ _ _ h1 hbel,fun _=>rfl⟩
            · exact⟨w1,h1,fun h=>absurd h hkS⟩
  · rintro l a w ⟨hls,hAD,hasz,hadf,hcl,hbw,hV⟩ hr;have hall:=all_listed' (by rw[hls,G.size]) G.back hr
    have hp:=hall p (by rw[G.size];exact G.lt)
    rcases hV with⟨hnl,_⟩|⟨_,hT,hF⟩
    · rw[hp]at hnl;cases hnl
    · rw[act_fill hAD hasz hadf];exact hend (fun t=>a.eval (.tmp t)) w hT fun k hk hkp=>hF k hk hkp (hall k (by rw[G.size];exact hk))
end
end Go.Proofs.YtngdbbligebcbabGreatDoor
