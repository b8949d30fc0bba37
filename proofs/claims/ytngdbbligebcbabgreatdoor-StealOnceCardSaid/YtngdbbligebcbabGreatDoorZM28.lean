import Derived.Test.YtngdbbligebcbabGreatDoorZM24
import Derived.Test.YtngdbbligebcbabGreatDoorZM27
import Derived.Laws.EntriesVeiled
import Derived.Test.YtngdbbligebcbabGreatDoorZM23
import Derived.Test.YtngdbbligebcbabGreatDoorZM8
import Derived.Test.YtngdbbligebcbabGreatDoorZM17
import Derived.Test.YtngdbbligebcbabGreatDoorZM18
set_option linter.unusedVariables false
set_option linter.unusedSimpArgs false
set_option maxRecDepth 100000
set_option maxHeartbeats 16000000
namespace Go.Proofs.YtngdbbligebcbabGreatDoor
open Go.RowKit
section
variable {A: Option Addr} {n c: Nat} {F: Option Addr} {m d: Nat} {W: List Int} {E: List (Int × Int)} {A': Option Addr} {n' c': Nat} {F': Option Addr} {m' d': Nat} {O L: List Int}
structure StRd(w0:World)(g gw:Nat)(A:Option Addr)(n c:Nat)(F:Option Addr)(m d:Nat)(W:List Int)(E:List (Int×Int))(A':Option Addr)(n' c':Nat)(F':Option Addr)(m' d':Nat)(O L:List Int)(w:World):Prop where
 bx:BxDC w0 A n c F m d W E A' n' c' F' m' d' O L w
 wb:WaitB g E L w
 fn:w.cell? ⟨gw,0,none⟩=some (.func (.func 137) #[] #[.pointer (some ⟨g,0,none⟩)])
 l1:w0.heap.size+1<gw
 l2:g<gw
 l3:gw<w.heap.size
theorem StRd.later{w0 w w':World}{g gw:Nat}(h:StRd w0 g gw A n c F m d W E A' n' c' F' m' d' O L w)(hb:Below (gw+1) w w'):StRd w0 g gw A n c F m d W E A' n' c' F' m' d' O L w':=
 ⟨h.bx.later (hb.mono (by have:=h.l1;omega)),RowV.below h.wb hb (by have:=h.l2;omega),(hb.cell (show gw<gw+1 by omega)).trans h.fn,h.l1,h.l2,Nat.lt_of_lt_of_le h.l3 hb.size⟩
theorem StRd.next{w0 w w':World}{g gw:Nat}(h:StRd w0 g gw A n c F m d W E A' n' c' F' m' d' O L w)(hb:Below w.heap.size w w'):StRd w0 g gw A n c F m d W E A' n' c' F' m' d' O L w':=h.later (hb.mono h.l3)
theorem isReady_any(j:Nat)(w0 w:World)(g gw:Nat)(hs:StRd w0 g gw A n c F m d W E A' n' c' F' m' d' O L w)(hj:j<m')(h64:m'<=64):
  Calls Tryz.prog 125 #[.int .i64 j,.pointer (some ⟨w0.heap.size+1,0,none⟩),.pointer (some ⟨gw,0,none⟩)] w fun e w'=>e= .returned (.bool (decide (ReadyC E O L j)))/\w'=w:=by
 have q0:=hs.bx.c0;have q1:=hs.bx.c1;have f0:=hs.fn;have hk:=hs.bx.k;have ln:=hk.ln;obtain⟨bk,off,y,rfl,hbk,hy,d1⟩:=hk.left.at_ (k:=j) (by rw[hk.hm];exact hj)
 have HY:Hid (leftC L (j:Int)=y):=Lib.hid (leftC_at hy);have C1:=Lib.hid (contains_any A' c' n' O (j:Int) w.heap.size w hk.hn (by omega) hk.on)
 have C2:=Lib.hid (waits_any j w hs.wb (by omega))
 obtain⟨r,hr⟩: ∃r,r=decide (ReadyC E O L j):=⟨_,rfl⟩;rw[<-hr];have HR:=Lib.hid hr;clear hs hk hy hbk hr
 by_cases h0:0<y
 ·by_cases hm: (j: Int) ∈ O
  ·obtain rfl: r = false:=HR.out.trans (decide_eq_false fun h => h.2.1 hm)
   rw[decide_eq_true hm]at C1;clear hm C2;go_enter Tryz.func125,Tryz.ntmps125;go_wp2_with fail;refine C1.out.mono ?_
   rintro e w1 ⟨rfl,rfl⟩;go_wp2;go_ret;exact⟨rfl,rfl⟩
  ·rw [decide_eq_false hm] at C1
   by_cases ho:OverC E L (j:Int)
   ·obtain rfl: r = true:=HR.out.trans (decide_eq_true ⟨by rw [HY.out]; exact h0,hm,ho⟩)
    rw[decide_eq_false (fun q=>q ho)]at C2
    clear hm ho;go_enter Tryz.func125,Tryz.ntmps125;go_wp2_with fail;refine C1.out.mono ?_
    rintro e w1 ⟨rfl,rfl⟩
    go_wp2_with(go_at_call 137;refine C2.out.mono ?_;rintro e w' ⟨rfl,rfl⟩)
    go_ret;exact⟨rfl,rfl⟩
   ·obtain rfl: r = false:=HR.out.trans (decide_eq_false fun h => ho h.2.2)
    rw[decide_eq_true ho]at C2;clear hm ho;go_enter Tryz.func125,Tryz.ntmps125;go_wp2_with fail;refine C1.out.mono ?_
    rintro e w1 ⟨rfl,rfl⟩
    go_wp2_with(go_at_call 137;refine C2.out.mono ?_;rintro e w' ⟨rfl,rfl⟩)
    go_ret;exact⟨rfl,rfl⟩
 ·obtain rfl: r = false:=HR.out.trans (decide_eq_false fun h => h0 (by have:=h.1; rw [HY.out] at this; exact this))
  have h0b:decide (0<y)=false:=decide_eq_false h0;clear h0 C1 C2;go_enter Tryz.func125,Tryz.ntmps125;go_wp2;go_ret;exact⟨rfl,rfl⟩
theorem pready_any(w:World)(hg:IsG w A n c F m d W E)(hk:IsC w A' n' c' F' m' d' O L)(hF:Fits W.length E)(h64:W.length<=64)(hl:L.length=W.length):
  Calls Tryz.prog 96 #[.agg #[.slice A n c,.slice F m d],.agg #[.slice A' n' c',.slice F' m' d']] w (GotOwn (readyW E O L m') w):=by
 obtain⟨w0,hw0⟩: ∃w0,w0=(w.alloc (.cells #[.slice A n c,.slice F m d] 25)).alloc (.cells #[.slice A' n' c',.slice F' m' d'] 37):=⟨_,rfl⟩;have B0:Hid (BxDC w A n c F m d W E A' n' c' F' m' d' O L w0):=Lib.hid (by rw[hw0];exact BxDC.start hg hk)
 have HW:=Lib.hid hw0;have HM:=Lib.hid hk.hm;have hm64:m'<=64:=by have:=hk.hm;omega
 have CW:=Lib.hid (waiting_any (q:=d') w0 B0.out.g hF h64 B0.out.k.hm hl B0.out.k.left);clear hg hk hF hl h64 hw0;have p0:=B0.out.d0;have p1:=B0.out.d1;have q0:=B0.out.c0;have q1:=B0.out.c1;go_enter Tryz.func96,Tryz.ntmps96;go_wp2_with fail;rw[<-HW.out];clear HW;go_wp2_with fail;refine CW.out.mono ?_
 rintro e w1 ⟨g,rfl,hwb,hg,b1⟩;obtain⟨w2,hw2⟩: ∃w2,w2=w1.alloc (.cells #[.func (.func 137) #[] #[.pointer (some ⟨g,0,none⟩)]] 70):=⟨_,rfl⟩;obtain⟨gw,hgw⟩: ∃gw,gw=w1.heap.size:=⟨_,rfl⟩;have HGW:=Lib.hid hgw;have HW2:=Lib.hid hw2;have S2:Hid (StRd w g gw A n c F m d W E A' n' c' F' m' d' O L w2):=Lib.hid (by
  have hb2:Below w1.heap.size w1 w2:=by rw[hw2];exact below_alloc _
  have hlt:g<w1.heap.size:=RowV.lt hwb;refine⟨(B0.out.next b1).next hb2,RowV.below hwb hb2 hlt,?_,?_,by omega,by rw[hw2,hgw];simp⟩
  ·rw[hw2,hgw,World.cell?_alloc_at _ _ _ _ rfl];rfl
  ·have:=(B0.out.next b1).lt;omega)
 have r1:=(B0.out.next b1).c1;have r2:w.heap.size+1<w1.heap.size:=(B0.out.next b1).lt;clear hwb hg b1 B0 CW p0 p1 q0 q1 hgw hw2;go_wp2;rw[<-HW2.out,<-HGW.out];clear HW2 HGW r1 r2;go_loopw [7,17] (fun v i wr=> ∃(j k:Nat) (A1:Option Addr) (c1:Nat),j<=m'/\k<=j/\i= .int .i64 j/\v= .slice A1 k c1/\Hid (k=(readyW E O L j).length)/\Hid (OwnI wr (gw+1) v (readyW E O L j))/\Hid (StRd w g gw A n c F m d W E A' n' c' F' m' d' O L wr)) (fun _ i _=>m' - (intOf i).toNat)
 case atStart=>exact⟨0,0,_,_,Nat.zero_le _,Nat.le_refl _,rfl,rfl,Lib.hid rfl,Lib.hid ⟨rfl,.inl ⟨rfl,rfl⟩⟩,S2⟩
 case round=>
  clear S2;obtain⟨j,k,A1,c1,hj,hkj,rfl,rfl,HK,HO,HB⟩:=hrel;have hsz:gw+1<=wr.heap.size:=HB.out.l3
  by_cases hlt:j<m'
  ·have HS:=Lib.hid (readyW_step E O L j)
   have C1:=Lib.hid (isReady_any j w wr g gw HB.out hlt hm64)
   by_cases hr:ReadyC E O L j
   ·have HN: Hid (readyW E O L (j + 1) = readyW E O L j ++ [(j: Int)]):=Lib.hid (by rw [HS.out,if_pos hr])
    rw[decide_eq_true hr]at C1;clear HS hr
    go_wp2_with(first
     |(go_at_call 125;refine C1.out.mono ?_;rintro e w' ⟨rfl,rfl⟩)
     |(at_builtin;refine wpList_push rfl _ _ rfl w' (gw+1) _ (readyW E O L j) (j:Int) k HK.out.symm (by omega) HO.out hsz rfl rfl ?_;intro A2 c2 w3 HO3 HB3;(have HO3':=Lib.hid HO3);(have HB3':=Lib.hid HB3);clear HO3 HB3))
    have HB4:=Lib.hid (HB.out.later HB3'.out);go_roundw
    case rel=>exact⟨j+1,k+1,A2,c2,by omega,by omega,by go_num,rfl,Lib.hid (by rw[HN.out,List.length_append,<-HK.out];rfl),Lib.hid (by rw[HN.out];exact HO3'.out),HB4⟩
    case measure=>simp[intOf];omega
   ·have HN: Hid (readyW E O L (j + 1) = readyW E O L j):=Lib.hid (by rw [HS.out,if_neg hr])
    rw[decide_eq_false hr]at C1;clear HS hr
    go_wp2_with(go_at_call 125;refine C1.out.mono ?_;rintro e w' ⟨rfl,rfl⟩)
    go_roundw
    case rel=>exact⟨j+1,k,A1,c1,by omega,by omega,by go_num,rfl,Lib.hid (by rw[HN.out,HK.out]),Lib.hid (by rw[HN.out];exact HO.out),HB⟩
    case measure=>simp[intOf];omega
  ·obtain rfl: m' = j:=by omega
   go_wp2;go_ret
   exact⟨A1,c1,by rw[<-HK.out];rfl,by rw[<-HK.out];exact HO.out.down (by have:=HB.out.l1;omega),HB.out.bx.bel⟩
theorem cready_any(w:World)(hg:IsG w A n c F m d W E)(hk:IsC w A' n' c' F' m' d' O L):
  Calls Tryz.prog 59 #[.agg #[.slice A n c,.slice F m d],.agg #[.slice A' n' c',.slice F' m' d']] w fun e w'=> ∃v,e= .returned v/\GotL (readyV W E O L) v w'/\Below w.heap.size w w':=by
 obtain⟨w0,hw0⟩: ∃w0,w0=(w.alloc (.cells #[.slice A n c,.slice F m d] 25)).alloc (.cells #[.slice A' n' c',.slice F' m' d'] 37):=⟨_,rfl⟩;have B0:Hid (BxDC w A n c F m d W E A' n' c' F' m' d' O L w0):=Lib.hid (by rw[hw0];exact BxDC.start hg hk)
 have HW:=Lib.hid hw0;have CK:=Lib.hid (ccheck_any w0 B0.out.g B0.out.k);obtain⟨z,hz⟩: ∃z,z=crewE W E O L:=⟨_,rfl⟩;rw[<-hz]at CK;have hmw:=hk.hm;clear hw0 hg hk;have p0:=B0.out.d0;have p1:=B0.out.d1;have q0:=B0.out.c0;have q1:=B0.out.c1
 by_cases he:z=0
 ·subst he
  obtain⟨hM,hC⟩:=crewE_zero.mp hz.symm;have CR:=Lib.hid (fun W' (h1:IsG W' A n c F m d W E) (h2:IsC W' A' n' c' F' m' d' O L)=>pready_any W' h1 h2 hM.fits hM.nodes hC.ln)
  have HV:Hid (readyV W E O L=readyW E O L m'):=Lib.hid (by unfold readyV;rw[if_pos hz.symm,<-hC.ln,hmw])
  clear hM hC hz hmw;go_enter Tryz.func59,Tryz.ntmps59;go_wp2_with fail;rw[<-HW.out];refine CK.out.mono ?_
  rintro e w1 ⟨rfl,b1⟩;have B1:=Lib.hid (B0.out.next b1);clear b1 B0 CK p0 p1 q0 q1;have p0:=B1.out.d0;have p1:=B1.out.d1;have q0:=B1.out.c0;have q1:=B1.out.c1;go_wp2_with fail;refine(CR.out w1 B1.out.g B1.out.k).mono ?_
  rintro e w2 ⟨A1,c1,rfl,ho,b2⟩;have B2:=Lib.hid (B1.out.next b2);have HO:=Lib.hid ho;clear ho b2;go_wp2;go_ret;exact⟨.slice A1 (readyW E O L m').length c1,rfl,⟨A1,c1,by rw[HV.out],by rw[HV.out];exact HO.out.ints⟩,B2.out.bel⟩
 ·have heb: (z != 0) = true:=bne_iff_ne.mpr he
  have HV:Hid (readyV W E O L= []):=Lib.hid (by unfold readyV;rw[if_neg (by rw[<-hz];exact he)])
  clear hz he hmw;go_enter Tryz.func59,Tryz.ntmps59;go_wp2_with fail;rw[<-HW.out];refine CK.out.mono ?_
  rintro e w1 ⟨rfl,b1⟩;have B1:=Lib.hid (B0.out.next b1);clear b1 B0 CK p0 p1 q0 q1;go_wp2;go_ret;exact⟨.slice none 0 0,rfl,⟨none,0,by rw[HV.out];rfl,by rw[HV.out];exact Ints.nil_ _ _ _⟩,B1.out.bel⟩
end
end Go.Proofs.YtngdbbligebcbabGreatDoor
namespace Go.Proofs.YtngdbbligebcbabGreatDoor
open Go Go.RowKit
structure IsGrS(w:World)(base:Nat)(A:Option Addr)(n c:Nat)(F:Option Addr)(md d:Nat)(W:List Int)(E:List (Int×Int)):Prop where
 hn:W.length=n
 hm:E.length=md
 ln:n<=400
 lm:md<=400
 ints:Ints w base A W
 pairs:Pairs w base F E
 hA:A=none->n=0/\c=0
 hF:F=none->md=0/\d=0
 tab:Tab64 w
 tb:0<base
section
variable {w w': World} {base: Nat} {A: Option Addr} {n c: Nat} {F: Option Addr} {md d: Nat} {W: List Int} {E: List (Int × Int)}
theorem IsGrS.isG(h:IsGrS w base A n c F md d W E)(hb:base<=w.heap.size):IsG w A n c F md d W E:=⟨h.hn,h.hm,h.ln,h.lm,h.ints.more hb,h.pairs.more hb,h.hA,h.hF,h.tab⟩
theorem IsGrS.below(h:IsGrS w base A n c F md d W E)(hb:Below base w w'):IsGrS w' base A n c F md d W E:=⟨h.hn,h.hm,h.ln,h.lm,h.ints.below hb,h.pairs.below hb,h.hA,h.hF,h.tab.below hb h.tb,h.tb⟩
theorem IsGrS.of(h:IsG w A n c F md d W E):IsGrS w w.heap.size A n c F md d W E:=⟨h.hn,h.hm,h.ln,h.lm,h.ints,h.pairs,h.hA,h.hF,h.tab,h.tab.lt⟩
end
theorem IsGng.crew{w:World}{base m:Nat}{g:Gng}{L:List Int}{a:GAd}(h:IsGng w base m g L a)(hm:m<=8)(hl:L.length<=400): ∃AL cL,a.vL= .slice AL L.length cL/\IsC w (some ⟨a.gO,0,none⟩) m a.cO AL L.length cL g.O L:=by
 obtain⟨AL,cL,e,hI⟩:=h.left.slice;refine⟨AL,cL,e,h.ol,rfl,by omega,hl,h.on.ints,hI,(fun q=>by cases q),fun q=> ?_,?_⟩
 ·rcases h.left.2 with ⟨q1,q2⟩ | ⟨b,cp,cur,q1,_⟩
  ·rw [e] at q1
   injection q1 with _ q1 q3;exact⟨q1,q3⟩
  ·rw [e,q] at q1
   injection q1 with q1 _ _;cases q1
 ·obtain ⟨cur,_,_,h1,_⟩:=rowN_block h.onF.1
  exact h1
def PhiRu(gw m:Nat)(ad:GAd)(vW vE:Value)(AL:Option Addr)(nL cL:Nat)(zs:List Int)(x:Nat):Nat->Value->World->Prop
 |0,v,w=>v= .pointer (some ⟨gw,0,none⟩)
 |1,v,w=>v= .pointer (some ⟨gw,0,none⟩)
 |2,v,w=>v= .pointer (some ⟨gw,5,none⟩)
 |3,v,w=>v= .agg #[vW,vE]
 |4,v,w=>v= .pointer (some ⟨gw,0,none⟩)
 |5,v,w=>v= .pointer (some ⟨gw,0,none⟩)
 |6,v,w=>v= .pointer (some ⟨gw,0,none⟩)
 |7,v,w=>v= .pointer (some ⟨gw,0,none⟩)
 |8,v,w=>v= .agg #[.slice (some ⟨ad.gO,0,none⟩) m ad.cO,.slice AL nL cL]
 |9,v,w=>GotL zs v w
 |10,v,w=>v= .int .i64 x
 |11,v,w=>v= .bool true
 |12,v,w=>v= .bool false
 |_,_,_=>True
theorem phiRu_below(gw m:Nat)(ad:GAd)(vW vE:Value)(AL:Option Addr)(nL cL:Nat)(zs:List Int)(x:Nat): ∀kq v w w',PhiRu gw m ad vW vE AL nL cL zs x kq v w->Below w.heap.size w w'->PhiRu gw m ad vW vE AL nL cL zs x kq v w':=by
 intro kq v w w' h hb
 match kq,h with
 |0,h=>exact h
 |1,h=>exact h
 |2,h=>exact h
 |3,h=>exact h
 |4,h=>exact h
 |5,h=>exact h
 |6,h=>exact h
 |7,h=>exact h
 |8,h=>exact h
 |9,h=>exact h.below hb
 |10,h=>exact h
 |11,h=>exact h
 |12,h=>exact h
 |kq+13,h=>exact trivial
def runGg(g:Gng)(c x:Nat):Gng:=turnG {g with O:=g.O.set c (x:Int)} c 0
section
variable {base gw m n: Nat} {g: Gng} {L: List Int} {ad: GAd} {W: List Int} {E: List (Int × Int)} {WA: Option Addr} {Wn Wc: Nat} {EF: Option Addr} {Em Ed: Nat}
theorem IsWk.gO_ne{w:World}{vW vE:Value}(h:IsWk w base gw m g L ad vW vE):gw≠ad.gO:=by
 obtain⟨cur,hb,_⟩:=rowN_block h.gng.onF.1;rintro rfl;have h1:=h.row;unfold RowV at h1;rw[hb]at h1;injection h1 with h1;injection h1 with _ h3 _;exact absurd h3 (by decide)
theorem IsWk.putO{w:World}{vW vE:Value}(h:IsWk w base gw m g L ad vW vE){c:Nat}(hc:c<m)(x:Int):IsWk (w.setCell ⟨ad.gO,c,none⟩ (.int .i64 x)) base gw m {g with O:=g.O.set c x} L ad vW vE:=
 ⟨h.row.far h.gO_ne,h.hw,h.gng.putO hc x⟩
theorem run_any{c x:Nat}(w:World)(hc:c<m)(hm:m<=8)(hx:x<W.length)(hr:ReadyC E g.O L x)(hcr:CrewOk W.length E g.O L)(hM:May W E)(hg:IsGrS w base WA Wn Wc EF Em Ed W E)
    (h:IsWk w base gw m g L ad (.slice WA Wn Wc) (.slice EF Em Ed)):
    Calls Tryz.prog 92 #[.pointer (some ⟨gw,0,none⟩), .int .i64 c, .int .i64 x] w fun e w'=>e= .returned (.int .i64 0)/\IsWk w' base gw m (runGg g c x) L ad (.slice WA Wn Wc) (.slice EF Em Ed)/\Kp [ad.gO,ad.gF,ad.gT] w w':=by
  obtain⟨AL,cL,hvL,hC⟩:=h.gng.crew hm (by rw[hcr.ln];have:=hM.nodes;omega)
  obtain⟨zs,hzs⟩: ∃zs,zs=readyV W E g.O L:=⟨_,rfl⟩;have hz2:zs=readyW E g.O L W.length:=by rw[hzs];unfold readyV;rw[if_pos (crewE_zero.mpr ⟨hM,hcr⟩)]
  have HZS:=Lib.hid hzs.symm;have HIN:Hid ((x:Int)∈zs):=Lib.hid (by rw[hz2];exact mem_nums.mpr (mem_readyU.mpr ⟨hx,hr⟩))
  have HZL:Hid (zs.length<=1000):=Lib.hid (by rw[hz2];exact Nat.le_trans (readyW_len _ _ _ _) (by have:=hM.nodes;omega))
  obtain⟨vW,hvW⟩: ∃v,v=Value.slice WA Wn Wc:=⟨_,rfl⟩;obtain⟨vE,hvE⟩: ∃v,v=Value.slice EF Em Ed:=⟨_,rfl⟩;rw[<-hvW,<-hvE]at h⊢;have HVW:=Lib.hid hvW;have HVE:=Lib.hid hvE;have HVL:=Lib.hid hvL;have HC:=Lib.hid hC;have HG:=Lib.hid hg;have H:=Lib.hid h;have HBS:Hid (base<=w.heap.size):=Lib.hid (by have:=h.gng.lts;omega)
  obtain⟨nL,hnL⟩: ∃nL,nL=L.length:=⟨_,rfl⟩;rw[<-hnL]at HVL HC;clear hvW hvE hvL hC hg h hzs hz2 hnL hr hcr;go_enter Tryz.func92,Tryz.ntmps92;go_upto_region 1 with fail;refine wp_region_facts' [7,8,9,10,11,12,13,14,15,16,17,18,19] [] [] (by kernel_rfl) (by kernel_rfl) (by kernel_rfl) (by intro d hd;simp at hd⊢;omega) (fun z=>IsWk z base gw m g L ad vW vE/\Below w.heap.size w z) (PhiRu gw m ad vW vE AL nL cL zs x)
    (fun z z' h hb=>⟨h.1.below hb,h.2.trans (hb.mono h.2.size)⟩) (phiRu_below gw m ad vW vE AL nL cL zs x) (⟨H.out.below (Below.refl _ _).drew,(Below.refl _ _).drew⟩) (fun p hp v w hv=>by cases hp) (fun kq hkq=>by simp at hkq) ?hstep ?hend
  case hstep=>
    intro kq o ho hw a w hI hA hd K hK;obtain⟨ρ,hρ⟩: ∃ρ,a.eval=ρ:=⟨_,rfl⟩;rw[hρ]at hA hd
    match kq,ho with
    | 0, ho =>
      have hoo:=Option.some.inj ho;subst hoo;exact fx_val hK hρ (.pointer (some ⟨gw,0,none⟩)) (by have h:=hA.tmp 0 (by decide);simp[execOp,h,go_sem]) rfl
    | 1, ho =>
      have hoo:=Option.some.inj ho;subst hoo;have f0:(ρ (.tmp 7))= .pointer (some ⟨gw,0,none⟩):=hd ⟨0, .data⟩ (by simp) (by rfl)
      exact fx_val hK hρ (.pointer (some ⟨gw,0,none⟩)) (by simp[execOp,f0,hA.const,go_sem]) rfl
    | 2, ho =>
      have hoo:=Option.some.inj ho;subst hoo;have f1:(ρ (.tmp 8))= .pointer (some ⟨gw,0,none⟩):=hd ⟨1, .data⟩ (by simp) (by rfl)
      exact fx_val hK hρ (.pointer (some ⟨gw,5,none⟩)) (by simp[execOp,f1,hA.const,go_sem]) rfl
    | 3, ho =>
      have hoo:=Option.some.inj ho;subst hoo;have f2:(ρ (.tmp 9))= .pointer (some ⟨gw,5,none⟩):=hd ⟨2, .data⟩ (by simp) (by rfl)
      have h0:w.cell? ⟨gw,5,none⟩=some vW:=hI.1.row.cell rfl
      have h1:w.cell? ⟨gw,6,none⟩=some vE:=hI.1.row.cell rfl
      exact fx_val hK hρ (.agg #[vW,vE]) (by simp[execOp,f2,h0,h1,go_sem]) rfl
    | 4, ho =>
      have hoo:=Option.some.inj ho;subst hoo;exact fx_val hK hρ (.pointer (some ⟨gw,0,none⟩)) (by have h:=hA.tmp 0 (by decide);simp[execOp,h,go_sem]) rfl
    | 5, ho =>
      have hoo:=Option.some.inj ho;subst hoo;have f4:(ρ (.tmp 11))= .pointer (some ⟨gw,0,none⟩):=hd ⟨4, .data⟩ (by simp) (by rfl)
      exact fx_val hK hρ (.pointer (some ⟨gw,0,none⟩)) (by simp[execOp,f4,hA.const,go_sem]) rfl
    | 6, ho =>
      have hoo:=Option.some.inj ho;subst hoo;have f5:(ρ (.tmp 12))= .pointer (some ⟨gw,0,none⟩):=hd ⟨5, .data⟩ (by simp) (by rfl)
      exact fx_val hK hρ (.pointer (some ⟨gw,0,none⟩)) (by simp[execOp,f5,hA.const,go_sem]) rfl
    | 7, ho =>
      have hoo:=Option.some.inj ho;subst hoo;have f6:(ρ (.tmp 13))= .pointer (some ⟨gw,0,none⟩):=hd ⟨6, .data⟩ (by simp) (by rfl)
      exact fx_val hK hρ (.pointer (some ⟨gw,0,none⟩)) (by simp[execOp,f6,hA.const,go_sem]) rfl
    | 8, ho =>
      have hoo:=Option.some.inj ho;subst hoo;have f7:(ρ (.tmp 14))= .pointer (some ⟨gw,0,none⟩):=hd ⟨7, .data⟩ (by simp) (by rfl)
      have h0:w.cell? ⟨gw,0,none⟩=some (.slice (some ⟨ad.gO,0,none⟩) m ad.cO):=hI.1.row.cell rfl
      have h1:w.cell? ⟨gw,1,none⟩=some (.slice AL nL cL):=by rw[<-HVL.out];exact hI.1.row.cell rfl
      exact fx_val hK hρ (.agg #[.slice (some ⟨ad.gO,0,none⟩) m ad.cO, .slice AL nL cL]) (by simp[execOp,f7,h0,h1,go_sem]) rfl
    | 9, ho =>
      have hoo:=Option.some.inj ho;subst hoo;have f3:(ρ (.tmp 10))= .agg #[vW,vE]:=hd ⟨3, .data⟩ (by simp) (by rfl)
      have f8:(ρ (.tmp 15))= .agg #[.slice (some ⟨ad.gO,0,none⟩) m ad.cO, .slice AL nL cL]:=hd ⟨8, .data⟩ (by simp) (by rfl)
      exact fx_call hK hρ 59 _ _ #[.agg #[vW,vE], .agg #[.slice (some ⟨ad.gO,0,none⟩) m ad.cO, .slice AL nL cL]] rfl (by simp only[List.map_toArray,List.map_cons,List.map_nil,hA.const,f3,f8]) (eg_of Tryz.func59 (by kernel_rfl) rfl) (by
    rw[HVW.out,HVE.out];refine(cready_any w ((HG.out.below (hI.2.mono HBS.out)).isG (Nat.le_trans HBS.out hI.2.size)) (HC.out.below hI.2)).mono ?_
    rintro e w' ⟨v,he,hv,hb⟩;rw[HZS.out]at hv;exact⟨_,he,hv,hb⟩)
    | 10, ho =>
      have hoo:=Option.some.inj ho;subst hoo;exact fx_val hK hρ (.int .i64 x) (by have h:=hA.tmp 2 (by decide);simp[execOp,h,go_sem]) rfl
    | 11, ho =>
      have hoo:=Option.some.inj ho;subst hoo;have f9:GotL zs (ρ (.tmp 16)) w:=hd ⟨9, .data⟩ (by simp) (by rfl)
      have f10:(ρ (.tmp 17))= .int .i64 x:=hd ⟨10, .data⟩ (by simp) (by rfl)
      obtain⟨A2,c2,e2,hI2⟩:=f9;exact fx_call hK hρ 66 _ _ #[.slice A2 zs.length c2, .int .i64 x] rfl (by simp only[List.map_toArray,List.map_cons,List.map_nil,hA.const,f10,e2]) (eg_of Tryz.func66 (by kernel_rfl) rfl) ((contains_any A2 c2 zs.length zs x _ w rfl HZL.out hI2).mono fun e w' ⟨he,hw⟩=>⟨.bool true,by rw[he,decide_eq_true HIN.out],rfl,by rw[hw];exact Below.refl _ _⟩)
    | 12, ho =>
      have hoo:=Option.some.inj ho;subst hoo;have f11:(ρ (.tmp 18))= .bool true:=hd ⟨11, .data⟩ (by simp) (by rfl)
      exact fx_val hK hρ (.bool false) (by simp[execOp,f11,hA.const,go_sem]) rfl
    |kq+13,ho=>simp at ho
  case hend=>
    intro vals w1 hI hF;have f19:vals 19= .bool false:=hF 12 (by decide)
    have W1:=Lib.hid hI.1;have HB1:=Lib.hid hI.2;clear hI hF;simp only[fillA,fillL,List.contains_cons,List.contains_nil,Nat.reduceBEq,Bool.or_false,Bool.false_or,Bool.or_true,Bool.true_or,cond_true,cond_false,Nat.zero_add,Nat.reduceAdd];rw[f19];have c0:w1.cell? ⟨gw,0,none⟩=some (.slice (some ⟨ad.gO,0,none⟩) m ad.cO):=W1.out.row.cell rfl
    have o0:=W1.out.gng.onc hc;have z0:=(W1.out.gng.frozen c).2.2.2;have hn: ¬((m:Int)<=(c:Int)):=by omega
    have CT:=Lib.hid (turn_any 0 (w1.setCell ⟨ad.gO,c,none⟩ (.int .i64 x)) hc hm (W1.out.putO hc x));rw[show((0:Nat):Int)=0 from rfl]at CT
    have HK1:=Lib.hid ((Kp.of_below HB1.out [ad.gO,ad.gF,ad.gT]).set (k:=c) (.int .i64 (x:Int)) (by simp:ad.gO∈ [ad.gO,ad.gF,ad.gT]))
    clear HB1 H;go_wp2_with fail;refine CT.out.mono ?_
    rintro e w2 ⟨rfl,W2,hk⟩;have HW2:=Lib.hid W2;have HK2:=Lib.hid (HK1.out.trans (hk.more (by simp)))
    clear W2 hk CT HK1 W1 c0 o0 z0;go_wp2;go_ret;exact⟨rfl,HW2.out,HK2.out⟩
end
section
variable {P: Program} {ops: Array Oper} {Q: Exit -> Act -> World -> Prop}
theorem wp_region_tailJ(m q:Nat)(ds F:List Nat){id:Nat}{a0:Act}{w0:World}(hm:P.follows .mixedOrders=true)(hG:tailB ops m ds F=true)(hsz: ∀d∈ds,d<a0.tmps.size\/1000<=d)
    (hq:q<m/\q∉F) (I J:World->Prop) (Rl:World->World->Prop) (Φ:Nat->Value->World->Prop) (Ψ:Nat->Value->Prop) (Θ:Nat->(Nat->Value)->World->Prop)
    (hBR: ∀w w',Below w.heap.size w w'->Rl w w') (hI: ∀w w',I w->Rl w w'->I w') (hJ: ∀w w',J w->Below w.heap.size w w'->J w') (hΦ: ∀k v w w',k≠q->Φ k v w->Rl w w'->Φ k v w') (hΦq: ∀v w w',Φ q v w->Below w.heap.size w w'->Φ q v w')
    (h0:I {w0 with drawn:=w0.drawn+1}) (h1:J {w0 with drawn:=w0.drawn+1})
    (hstep: ∀(k:Nat) (o:Oper),k<m->k∉F->ops[k]? =some o-> ∀(a:Act) (w:World),I w->AtDoor a0 (ds.take m) a.eval->(∀e∈o.after,Region.binds .any e=true->e.on∉F->Φ e.on (a.eval (.tmp (ds.getD e.on 0))) w)->(k=q->J w)->
      ∀K:Act->World->Prop,(∀v w',Φ k v w'->(if k=q then Rl w w' else Below w.heap.size w w')->K (a.put o.dst v) w')->o.wp P a w K Q)
    (hloose: ∀(k:Nat) (o:Oper),k∈F->ops[k]? =some o-> ∀(ρ:Operand->Value) (w:World),AtDoor a0 ds ρ->(∀e∈o.after,Region.binds .any e=true->e.on∉F-> ∃w1,Φ e.on (ρ (.tmp (ds.getD e.on 0))) w1)-> ∃v,(execOp ρ o).run P w= .ok (.value v) w/\Ψ k v)
    (hmid: ∀(vals:Nat->Value) (w:World),I w->(∀k,k<m->k∉F->Φ k (vals (ds.getD k 0)) w)->Θ m vals w)
    (htail: ∀(t:Nat) (o:Oper),m<=t->ops[t]? =some o-> ∀(a:Act) (w:World),AtDoor a0 ds a.eval->Θ t (fun x=>a.eval (.tmp x)) w->(∀e∈o.after,Region.binds .any e=true->e.on∈F->Ψ e.on (a.eval (.tmp (ds.getD e.on 0))))->
      ∀K:Act->World->Prop,(∀v w',Θ (t+1) (fun x=>if o.dst=some x then v else a.eval (.tmp x)) w'->K (a.put o.dst v) w')->o.wp P a w K Q)
    (hΘ: ∀(t:Nat) (f g:Nat->Value) (w:World),(∀k,k<t->k∉F->f (ds.getD k 0)=g (ds.getD k 0))->Θ t f w->Θ t g w)
    (hend: ∀(vals:Nat->Value) (w:World),Θ ds.length vals w->Q .normal ⟨(fillA a0 ds vals).toArray,a0.defers⟩ w):
    (Code.region id ops true).wp P Q a0 w0:=by
  have G:=tail_of hG;refine wp_region_inv (fun l a w=>l.size=ds.length/\AtDoor a0 ds a.eval/\a.tmps.size=a0.tmps.size/\a.defers=a0.defers/\
    (∀(i:Nat) (o:Oper),l.getD i false=true->ops[i]? =some o-> ∀e∈o.after,Region.binds .any e=true->l.getD e.on false=true)/\
    (∀k,k∈F->l.getD k false=true->Ψ k (a.eval (.tmp (ds.getD k 0))))/\
    (∀k,k<m->k∉F->l.getD k false=true-> ∃w1,Φ k (a.eval (.tmp (ds.getD k 0))) w1)/\
    (((∀ t, m <= t -> l.getD t false = false) /\ AtDoor a0 (ds.take m) a.eval /\ I w /\ (l.getD q false = false -> J w) /\ ∀ k, k < m -> k ∉ F -> l.getD k false = true -> Φ k (a.eval (.tmp (ds.getD k 0))) w) \/
     (∃t,m<t/\t<=ds.length/\(∀j,t<=j->l.getD j false=false)/\(∀j,m<=j->j<t->l.getD j false=true)/\Θ t (fun x=>a.eval (.tmp x)) w))) hm ?_ ?_ ?_
  · have hno: ∀k,(Array.replicate ops.size false).getD k false=false:=fun k=>by
      by_cases h2:k<ops.size<;>simp[h2]
    exact⟨by rw[Array.size_replicate];exact G.size,atDoor_start a0 ds,rfl,rfl,fun k o h=>absurd h (by rw[hno];decide),fun k _ h=>absurd h (by rw[hno];decide),fun k _ _ h=>absurd h (by rw[hno];decide), .inl ⟨fun t _=>hno t,atDoor_start a0 _,h0,fun _=>h1,fun k _ _ h=>absurd h (by rw[hno];decide)⟩⟩
  · rintro l a w i ⟨hls,hAD,hasz,hadf,hcl,hFl,hPl,hV⟩ hi;obtain⟨hun,o,ho,hpre⟩:=mem_ready.1 hi;have hilt:i<ops.size:=(Array.getElem?_eq_some_iff.1 ho).1
    have hin:i<ds.length:=by rw[<-G.size];exact hilt
    have hil:i<l.size:=by omega
    have hun2:l.getD i false=false:=by
      cases h:l.getD i false with
      |false=>rfl
      |true=>simp[hil]at h hun;rw[h]at hun;cases hun
    have hcl2: ∀(k:Nat) (o':Oper),(l.setIfInBounds i true).getD k false=true->ops[k]? =some o'-> ∀e∈o'.after,Region.binds .any e=true->(l.setIfInBounds i true).getD e.on false=true:=fun k o' hk ho' e he hb=>by
      refine(getD_set_iff hil).mpr (.inr ?_)
      rcases listed_set hk with h|h
      · subst h;rw[ho]at ho';obtain rfl:=Option.some.inj ho';exact hpre e he hb
      · exact hcl k o' h ho' e he hb
    have hls2:(l.setIfInBounds i true).size=ds.length:=by rw[Array.size_setIfInBounds];exact hls
    have hsame: ∀v,(ds.getD i 0<1000/\o.dst=some (ds.getD i 0))->(a.put o.dst v).eval (.tmp (ds.getD i 0))=v:=fun v hd=>by
      rw[hd.2,eval_put_same _ _ _ (by rw[hasz];exact(hsz _ (fds_mem hin)).resolve_right (by omega))]
    have hother: ∀v k,k<ds.length->k≠i->(a.put o.dst v).eval (.tmp (ds.getD k 0))=a.eval (.tmp (ds.getD k 0)):=fun v k hk hki=>by
      rcases G.dst i o ho with hd|hd
      · rw[hd.2,eval_put_other _ _ _ _ (fun e=>hki (fds_inj G.nodup hk hin e))]
      · rw[hd.2.1];rfl
    have hADp: ∀v,AtDoor a0 ds (a.put o.dst v).eval:=fun v=>by
      rcases G.dst i o ho with hd|hd
      · rw[hd.2];exact hAD.put (fds_mem hin) v
      · rw[hd.2.1];exact hAD
    have hszp: ∀v,(a.put o.dst v).tmps.size=a0.tmps.size:=fun v=>by
      rcases G.dst i o ho with hd|hd
      · rw[hd.2];show(a.tmps.setIfInBounds _ _).size=_
        rw[Array.size_setIfInBounds];exact hasz
      · rw[hd.2.1];exact hasz
    have hdfp: ∀v,(a.put o.dst v).defers=a0.defers:=fun v=>by
      rcases G.dst i o ho with hd|hd
      · rw[hd.2];exact hadf
      · rw[hd.2.1];exact hadf
    refine wpOp_at ho (G.guard i o ho) ?_
    have hset: ∀k,k≠i->(l.setIfInBounds i true).getD k false=l.getD k false:=fun k hk=>by
      cases h:l.getD k false with
      |true=>exact(getD_set_iff hil).mpr (.inr h)
      | false =>
        cases h2:(l.setIfInBounds i true).getD k false with
        |false=>rfl
        |true=>rw[(listed_set h2).resolve_left hk]at h;cases h
    have hseti:(l.setIfInBounds i true).getD i false=true:=(getD_set_iff hil).mpr (.inl rfl);have hmt:i<m->ds.getD i 0∈ds.take m:=fun h=>by
      rw[List.getD_eq_getElem?_getD,List.getElem?_eq_getElem hin]
      exact List.mem_take_iff_getElem.mpr ⟨i,by omega,rfl⟩
    by_cases hiF:i∈F
    · have him:=G.loose i hiF;obtain⟨v,hr,hv⟩:=hloose i o hiF ho a.eval w hAD (fun e he hb heF=>hPl e.on (Nat.lt_trans (G.back i o ho e he hb) him) heF (hpre e he hb))
      have hdi:=(G.dst i o ho).resolve_right (by omega)
      have hgo: ∀(X:Prop),((l.setIfInBounds i true).size=ds.length/\AtDoor a0 ds (a.put o.dst v).eval/\(a.put o.dst v).tmps.size=a0.tmps.size/\(a.put o.dst v).defers=a0.defers/\
        (∀(i_1:Nat) (o:Oper),(l.setIfInBounds i true).getD i_1 false=true->ops[i_1]? =some o-> ∀e∈o.after,Region.binds .any e=true->(l.setIfInBounds i true).getD e.on false=true)/\
        (∀k,k∈F->(l.setIfInBounds i true).getD k false=true->Ψ k ((a.put o.dst v).eval (.tmp (ds.getD k 0))))/\(∀k,k<m->k∉F->(l.setIfInBounds i true).getD k false=true-> ∃w1,Φ k ((a.put o.dst v).eval (.tmp (ds.getD k 0))) w1)/\X)↔X:=fun X=>by
        refine⟨fun h=>h.2.2.2.2.2.2.2,fun h=>⟨hls2,hADp v,hszp v,hdfp v,hcl2,fun k hk hkl=> ?_,fun k hk hkF hkl=> ?_,h⟩⟩
        rotate_left
        · have hki:k≠i:=fun e=>hkF (e▸hiF)
          rw[hother v k (by have:=G.le;omega) hki]
          exact hPl k hk hkF ((listed_set hkl).resolve_left hki)
        by_cases hki:k=i
        · subst hki;rw[hsame v hdi];exact hv
        · rw[hother v k (Nat.lt_of_lt_of_le (G.loose k hk) G.le) hki];exact hFl k hk ((listed_set hkl).resolve_left hki)
      unfold Oper.wp;rw[hr,Oper.upon_value];refine(hgo _).mpr ?_
      rcases hV with⟨hno,hAT,hIw,hJw,hF⟩|⟨t,ht1,ht2,hno,hyes,hT⟩
      · refine .inl ⟨fun t ht=>by rw[hset t (by omega)];exact hno t ht,by rw[hdi.2];exact hAT.put (hmt him) v,hIw,fun e=>hJw (by rw[<-hset q (fun e2=>hq.2 (e2▸hiF))];exact e),fun k hk hkF hkl=> ?_⟩
        have hki:k≠i:=fun e=>hkF (e▸hiF)
        rw[hother v k (by have:=G.le;omega) hki]
        exact hF k hk hkF ((listed_set hkl).resolve_left hki)
      · refine .inr ⟨t,ht1,ht2,fun j hj=>by rw[hset j (by omega)];exact hno j hj,fun j h1 h2=>by rw[hset j (by omega)];exact hyes j h1 h2,hΘ t _ _ w (fun k hk hkF=> ?_) hT⟩
        exact(hother v k (by omega) (fun e=>hkF (e▸hiF))).symm
    by_cases him:i<m
    · -- ahead of the tail
      rcases hV with⟨hno,hAT,hIw,hJw,hF⟩|⟨t,ht1,ht2,hno,hyes,hT⟩
      · refine hstep i o him hiF ho a w hIw hAT (fun e he hb heF=>hF e.on (Nat.lt_trans (G.back i o ho e he hb) him) heF (hpre e he hb)) (fun e=>hJw (e▸hun2)) _ fun v w' hphi hb=> ?_
        have hb':Rl w w':=by
          split at hb
          · exact hb
          · exact hBR _ _ hb
        have hdi:=(G.dst i o ho).resolve_right (by omega)
        refine⟨hls2,hADp v,hszp v,hdfp v,hcl2,fun k hk hkl=> ?_,fun k hk hkF hkl=> ?_, .inl ⟨fun t ht=>by rw[hset t (by omega)];exact hno t ht,by rw[hdi.2];exact hAT.put (hmt him) v,hI _ _ hIw hb',fun e=> ?_,fun k hk hkF hkl=> ?_⟩⟩
        · have hki:k≠i:=fun e=>hiF (e▸hk)
          rw[hother v k (Nat.lt_of_lt_of_le (G.loose k hk) G.le) hki];exact hFl k hk ((listed_set hkl).resolve_left hki)
        · by_cases hki:k=i
          · subst hki;rw[hsame v hdi];exact⟨_,hphi⟩
          · rw[hother v k (by have:=G.le;omega) hki]
            exact hPl k hk hkF ((listed_set hkl).resolve_left hki)
        · by_cases hiq:i=q
          · rw[<-hiq,hseti]at e;cases e
          · rw[if_neg hiq]at hb;exact hJ _ _ (hJw (by rw[<-hset q (fun e2=>hiq e2.symm)];exact e)) hb
        · by_cases hki:k=i
          · subst hki;rw[hsame v hdi];exact hphi
          · rw[hother v k (by have:=G.le;omega) hki]
            have hold:=hF k hk hkF ((listed_set hkl).resolve_left hki)
            by_cases hkq:k=q
            · rw[if_neg (fun e2=>hki (hkq.trans e2.symm))]at hb
              rw[hkq]at hold⊢;exact hΦq _ _ _ hold hb
            · exact hΦ k _ _ _ hkq hold hb'
      · exfalso
        have h1:=hyes m (Nat.le_refl _) ht1;have h2:=waits_done hcl 12 m i (G.last m i (by omega) (Nat.le_refl _) him hiF) (fun o' ho' e he hb=>hcl m o' h1 ho' e he hb)
        rw[hun2]at h2;cases h2
    · -- in the tail
      have hall: ∀k,k<i->k∉F->l.getD k false=true:=fun k hk hkF=>waits_done hcl 12 i k (G.last i k hin (by omega) hk hkF) (fun o' ho' e he hb=>by
        rw[ho]at ho';obtain rfl:=Option.some.inj ho';exact hpre e he hb)
      have hTi:Θ i (fun x=>a.eval (.tmp x)) w/\(∀j,i<=j->l.getD j false=false)/\(∀j,m<=j->j<i->l.getD j false=true):=by
        rcases hV with⟨hno,hAT,hIw,hJw,hF⟩|⟨t,ht1,ht2,hno,hyes,hT⟩
        · obtain rfl:i=m:=by
            rcases Nat.lt_or_ge m i with h|h
            · have h3:=hall m h (fun q=>by have:=G.loose m q;omega)
              rw[hno m (Nat.le_refl _)]at h3;cases h3
            · omega
          exact⟨hmid _ w hIw fun k hk hkF=>hF k hk hkF (hall k hk hkF),fun j hj=>hno j hj,fun j h1 h2=>by omega⟩
        · obtain rfl:i=t:=by
            rcases Nat.lt_trichotomy i t with h|h|h
            · have:=hyes i (by omega) h
              rw[hun2]at this;cases this
            · exact h
            · have h3:=hall t h (fun q=>by have:=G.loose t q;omega)
              rw[hno t (Nat.le_refl _)]at h3;cases h3
          exact⟨hT,hno,hyes⟩
      obtain⟨hT,hno,hyes⟩:=hTi;refine htail i o (by omega) ho a w hAD hT (fun e he hb heF=>hFl e.on heF (hpre e he hb)) _ fun v w' hT'=> ?_
      refine⟨hls2,hADp v,hszp v,hdfp v,hcl2,fun k hk hkl=> ?_,fun k hk hkF hkl=> ?_, .inr ⟨i+1,by omega,by omega,fun j hj=>by rw[hset j (by omega)];exact hno j (by omega),fun j h1 h2=> ?_,hΘ _ _ _ w' (fun k hk hkF=> ?_) hT'⟩⟩
      · have hki:k≠i:=fun e=>hiF (e▸hk)
        rw[hother v k (Nat.lt_of_lt_of_le (G.loose k hk) G.le) hki];exact hFl k hk ((listed_set hkl).resolve_left hki)
      · have hki:k≠i:=by omega
        rw[hother v k (by have:=G.le;omega) hki]
        exact hPl k hk hkF ((listed_set hkl).resolve_left hki)
      · by_cases hji:j=i
        · subst hji;exact hseti
        · rw[hset j hji];exact hyes j h1 (by omega)
      · by_cases hki:k=i
        · subst hki;rcases G.dst k o ho with hd|hd
          · rw[hd.2]at hsame⊢;simp only[if_true];exact(hsame v ⟨hd.1,rfl⟩).symm
          · rw[hd.2.1];rfl
        · rw[hother v k (by omega) hki]
          rcases G.dst i o ho with hd|hd
          · rw[hd.2];simp only[Option.some.injEq];rw[if_neg (fun e=>hki (fds_inj G.nodup (by omega) hin e.symm))]
          · rw[hd.2.1];rfl
  · rintro l a w ⟨hls,hAD,hasz,hadf,hcl,hFl,hPl,hV⟩ hr;have hall:=all_listed' (by rw[hls,G.size]) G.back hr
    rw[act_fill hAD hasz hadf];rcases hV with⟨hno,hAT,hIw,hJw,hF⟩|⟨t,ht1,ht2,hno,hyes,hT⟩
    · have hml:m=ds.length:=by
        rcases Nat.lt_or_ge m ds.length with h|h
        · have h3:=hall m (by rw[G.size];exact h)
          rw[hno m (Nat.le_refl _)]at h3;cases h3
        · have:=G.le;omega
      have h4:=hmid (fun t=>a.eval (.tmp t)) w hIw fun k hk hkF=>hF k hk hkF (hall k (by rw[G.size];omega))
      rw[hml]at h4;exact hend _ w h4
    · obtain rfl:t=ds.length:=by
        rcases Nat.lt_or_ge t ds.length with h|h
        · have h3:=hall t (by rw[G.size];exact h)
          rw[hno t (Nat.le_refl _)]at h3;cases h3
        · omega
      exact hend _ w hT
end
end Go.Proofs.YtngdbbligebcbabGreatDoor
