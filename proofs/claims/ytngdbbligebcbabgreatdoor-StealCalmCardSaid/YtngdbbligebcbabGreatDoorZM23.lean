import Derived.Test.YtngdbbligebcbabGreatDoorZM22
import Derived.Test.YtngdbbligebcbabGreatDoorZM8
import Derived.Lib.Hide
import Derived.Laws.ResultCell
import Derived.Test.YtngdbbligebcbabGreatDoorZM18
import Derived.Test.YtngdbbligebcbabGreatDoorZM15
import Derived.Test.YtngdbbligebcbabGreatDoorZM10
import Derived.Test.YtngdbbligebcbabGreatDoorZM6
import Derived.Laws.Rows
set_option linter.unusedSimpArgs false
set_option linter.unusedVariables false
set_option maxRecDepth 100000
set_option maxHeartbeats 4000000
namespace Go.Proofs.YtngdbbligebcbabGreatDoor
open Go.RowKit
def waitV(E:List (Int×Int))(L:List Int):List Value:=(List.range 64).map fun n:Nat=>Value.bool (decide (¬OverC E L (n:Int)))
theorem waitV_length(E:List (Int×Int))(L:List Int):(waitV E L).length=64:=by simp[waitV]
theorem waitV_at{E:List (Int×Int)}{L:List Int}{n:Nat}(h:n<64):(waitV E L)[n]? =some (.bool (decide (¬OverC E L (n:Int)))):=by
 unfold waitV;rw[List.getElem?_map,List.getElem?_range h];rfl
theorem waitV_nil(L:List Int):waitV [] L=List.replicate 64 (Value.bool false):=by
 apply List.ext_getElem?
 intro i;rcases Nat.lt_or_ge i 64 with h|h
 ·rw [waitV_at h,List.getElem?_replicate,if_pos h,decide_eq_false]
  exact fun q=>q (fun e he=>absurd he (by simp))
 ·rw[List.getElem?_eq_none (by rw[waitV_length];exact h),List.getElem?_eq_none (by simpa using h)]
theorem overC_snoc{E:List (Int×Int)}{L:List Int}{x y:Int}{n:Int}:OverC (E++ [(x,y)]) L n↔OverC E L n/\(y=n-> ¬0<leftC L x):=by
 unfold OverC;constructor
 ·intro h
  exact⟨fun e he=>h e (List.mem_append_left _ he),fun q=>h (x,y) (List.mem_append_right _ (by simp)) q⟩
 ·rintro ⟨h1,h2⟩ e he
  rcases List.mem_append.mp he with h|h
  ·exact h1 e h
  ·obtain rfl: e = (x,y):=by simpa using h
   exact h2
theorem waitV_step{E:List (Int×Int)}{L:List Int}{x:Int}{m:Nat}(hm:m<64)(hx:0<leftC L x):waitV (E++ [(x,(m:Int))]) L=(waitV E L).set m (.bool true):=by
 apply List.ext_getElem?
 intro i;rcases Nat.lt_or_ge i 64 with h|h
 ·rw [waitV_at h,List.getElem?_set]
  by_cases e:m=i
  ·rw [if_pos e,if_pos (by rw [waitV_length]; omega),decide_eq_true]
   rw[overC_snoc];exact fun q=>q.2 (by rw[e]) hx
  ·rw [if_neg e,waitV_at h]
   congr 2
   exact decide_eq_decide.mpr ⟨fun q r=>q (overC_snoc.mpr ⟨r,fun e2=>by omega⟩),fun q r=>q (overC_snoc.mp r).1⟩
 ·rw[List.getElem?_eq_none (by rw[waitV_length];exact h),List.getElem?_eq_none (by rw[List.length_set,waitV_length];exact h)]
theorem waitV_still{E:List (Int×Int)}{L:List Int}{x y:Int}(hx: ¬0<leftC L x):waitV (E++ [(x,y)]) L=waitV E L:=by
 apply List.ext_getElem?
 intro i;rcases Nat.lt_or_ge i 64 with h|h
 ·rw [waitV_at h,waitV_at h]
  congr 2
  exact decide_eq_decide.mpr ⟨fun q r=>q (overC_snoc.mpr ⟨r,fun _=>hx⟩),fun q r=>q (overC_snoc.mp r).1⟩
 ·rw[List.getElem?_eq_none (by rw[waitV_length];exact h),List.getElem?_eq_none (by rw[waitV_length];exact h)]
def WaitB(g:Nat)(E:List (Int×Int))(L:List Int)(w:World):Prop:=RowV g 165 (waitV E L) w
theorem WaitB.below{g:Nat}{E:List (Int×Int)}{L:List Int}{w w':World}(h:WaitB g E L w)(hb:Below w.heap.size w w'):WaitB g E L w':=RowV.below h hb (RowV.lt h)
theorem waits_any{g:Nat}{E:List (Int×Int)}{L:List Int}(n:Nat)(w:World)(h:WaitB g E L w)(hn:n<64):
  Calls Tryz.prog 137 #[.int .i64 n,.pointer (some ⟨g,0,none⟩)] w fun e w'=>e= .returned (.bool (decide (¬OverC E L (n:Int))))/\w'=w:=by
 have d1:=RowV.cell h (waitV_at (E:=E) (L:=L) hn);obtain⟨b,hb⟩: ∃b,b=decide (¬OverC E L (n:Int)):=⟨_,rfl⟩;rw[<-hb]at d1⊢;clear hb h;go_enter Tryz.func137,Tryz.ntmps137;go_wp2;go_ret;exact⟨rfl,rfl⟩
section
variable {A: Option Addr} {n c: Nat} {F: Option Addr} {m d: Nat} {W: List Int} {E: List (Int × Int)} {B: Option Addr} {k q: Nat} {L: List Int}
theorem leftC_at{L:List Int}{n:Nat}{z:Int}(h:L[n]? =some z):leftC L (n:Int)=z:=by
 rw[leftC_nat,List.getD_eq_getElem?_getD,h];rfl
theorem waiting_any(w:World)(hg:IsG w A n c F m d W E)(hF:Fits W.length E)(h64:W.length<=64)(hk:L.length=k)(hL:L.length=W.length)(hI:Ints w w.heap.size B L):
  Calls Tryz.prog 117 #[.agg #[.slice A n c,.slice F m d],.slice B k q] w fun e w'=> ∃g,e= .returned (.func (.func 137) #[] #[.pointer (some ⟨g,0,none⟩)])/\WaitB g E L w'/\w.heap.size<=g/\Below w.heap.size w w':=by
 have HP:=Lib.hid hg.pairs;have HM:=Lib.hid hg.hm;have hm4:=hg.lm;have HI:=Lib.hid hI;have HK:=Lib.hid hk;have hk64:k<=64:=by omega
 have HFX:Hid (∀e∈E,∃a b:Nat,e=((a:Int),(b:Int))/\a<k/\b<64):=Lib.hid (fun e he=>by
  obtain⟨h1,h2,h3,h4⟩:=hF e he;refine⟨e.1.toNat,e.2.toNat,?_,by omega,by omega⟩
  rw[Int.toNat_of_nonneg h1,Int.toNat_of_nonneg (by omega)])
 clear hg hF hL hI hk;go_enter Tryz.func117,Tryz.ntmps117;go_wp2;obtain⟨w1,hw1⟩: ∃w1,w1=w.alloc (.cells #[.slice A n c,.slice F m d] 25):=⟨_,rfl⟩;have s1:w1.heap.size=w.heap.size+1:=by rw[hw1];simp
 have b1:Below w.heap.size w w1:=by rw[hw1];exact below_alloc _
 rw[<-hw1];have hz:(#[Value.bool false,Value.bool false,Value.bool false,Value.bool false,Value.bool false,Value.bool false,Value.bool false,Value.bool false,Value.bool false,Value.bool false,Value.bool false,Value.bool false,Value.bool false,Value.bool false,Value.bool false,Value.bool false,Value.bool false,Value.bool false,Value.bool false,Value.bool false,Value.bool false,Value.bool false,Value.bool false,Value.bool false,Value.bool false,Value.bool false,Value.bool false,Value.bool false,Value.bool false,Value.bool false,Value.bool false,Value.bool false,Value.bool false,Value.bool false,Value.bool false,Value.bool false,Value.bool false,Value.bool false,Value.bool false,Value.bool false,Value.bool false,Value.bool false,Value.bool false,Value.bool false,Value.bool false,Value.bool false,Value.bool false,Value.bool false,Value.bool false,Value.bool false,Value.bool false,Value.bool false,Value.bool false,Value.bool false,Value.bool false,Value.bool false,Value.bool false,Value.bool false,Value.bool false,Value.bool false,Value.bool false,Value.bool false,Value.bool false,Value.bool false]:Array Value)=(waitV (E.take 0) L).toArray:=by rw[List.take_zero,waitV_nil];rfl
 rw[hz];obtain⟨w2,hw2⟩: ∃w2,w2=w1.alloc (.cells (waitV (E.take 0) L).toArray 165):=⟨_,rfl⟩;have b2:Below w1.heap.size w1 w2:=by rw[hw2];exact below_alloc _
 have hp:WaitB (w.heap.size+1) (E.take 0) L w2:=by
  have:=RowV.new w1 165 (waitV (E.take 0) L);rw[s1,<-hw2]at this;exact this
 rw[<-hw2];have d0:w2.cell? ⟨w.heap.size,0,none⟩=some (.slice A n c):=by
  rw[b2.cell (show(⟨w.heap.size,0,none⟩:Addr).block<_ by rw[s1];show w.heap.size<_;omega),hw1,World.cell?_alloc_at _ _ _ _ rfl];rfl
 have d1:w2.cell? ⟨w.heap.size,1,none⟩=some (.slice F m d):=by
  rw[b2.cell (show(⟨w.heap.size,1,none⟩:Addr).block<_ by rw[s1];show w.heap.size<_;omega),hw1,World.cell?_alloc_at _ _ _ _ rfl];rfl
 have B0:Hid (Below w.heap.size w w2):=Lib.hid (b1.trans (b2.mono b1.size));have HP0:=Lib.hid hp;clear hw1 hw2 s1 b1 b2 hp hz w1;go_wp2;go_loopw [11] (fun v wr=> ∃j:Nat,j<=m/\v= .int .i64 j/\Hid (WaitB (w.heap.size+1) (E.take j) L wr)/\Hid (Below w.heap.size w wr)) (fun v _=>m - (intOf v).toNat)
 case atStart=>exact⟨0,Nat.zero_le _,rfl,HP0,B0⟩
 case round=>
  clear d0 d1 HP0 B0;obtain⟨j,hj,rfl,HW,HB⟩:=hrel
  by_cases hlt:j<m
  ·obtain ⟨bk,off,e,rfl,hbg,hek,e1,e2⟩:=HP.out.at_ (k:=j) (by rw [HM.out]; exact hlt)
   obtain⟨a,b,rfl,ha,hb⟩:=HFX.out e (List.mem_of_getElem? hek)
   have d1:=(HB.out.cell (show(⟨bk,off+j * 2,none⟩:Addr).block<_ from hbg)).trans e1
   have d2:=(HB.out.cell (show(⟨bk,off+j * 2+1,none⟩:Addr).block<_ from hbg)).trans e2
   simp only at d1 d2;have hbr:bk<wr.heap.size:=Nat.lt_of_lt_of_le hbg HB.out.size;obtain⟨bl,ofl,z,rfl,hbl,hz,e3⟩:=HI.out.at_ (k:=a) (by rw[HK.out];exact ha)
   have d3:=(HB.out.cell (show(⟨bl,ofl+a,none⟩:Addr).block<_ from hbl)).trans e3
   have hbr2:bl<wr.heap.size:=Nat.lt_of_lt_of_le hbl HB.out.size;have HZ:=Lib.hid (leftC_at hz);have HT:Hid (E.take (j+1)=E.take j++ [((a:Int),(b:Int))]):=Lib.hid (by rw[List.take_add_one,hek];rfl)
   have hgl:w.heap.size+1<wr.heap.size:=RowV.lt HW.out;have f1:=RowV.frozen HW.out b;obtain⟨u,hu⟩: ∃u,(waitV (E.take j) L)[b]? =some u:=⟨_,waitV_at hb⟩
   have c1:=RowV.cell HW.out hu;clear e1 e2 e3 hek hz hu hbg hbl
   by_cases hz0:0<z
   ·have HN:=Lib.hid (waitV_step (E:=E.take j) (L:=L) hb (show 0 < leftC L (a: Int) by rw [HZ.out]; exact hz0))
    go_wp2;go_roundw
    case rel=>exact⟨j+1,by omega,by go_num,Lib.hid (by
     rw[HT.out];unfold WaitB;rw[HN.out];exact RowV.alloc (RowV.set HW.out b _) _),Lib.hid ((HB.out.setCell (by show w.heap.size<=w.heap.size+1;omega) _).alloc (by simp[World.setCell];omega) _)⟩
    case measure=>simp[intOf];omega
   ·have hzf: decide (0 < z) = false:=decide_eq_false hz0
    have HN:=Lib.hid (waitV_still (E:=E.take j) (L:=L) (y:=(b:Int)) (show¬0<leftC L (a:Int) by rw[HZ.out];exact hz0))
    go_wp2;go_roundw
    case rel=>exact⟨j+1,by omega,by go_num,Lib.hid (by
     rw[HT.out];unfold WaitB;rw[HN.out];exact RowV.alloc HW.out _),Lib.hid (HB.out.trans ((below_alloc _).mono HB.out.size))⟩
    case measure=>simp[intOf];omega
  ·obtain rfl: j = m:=by omega
   have HW2:Hid (WaitB (w.heap.size+1) E L wr):=Lib.hid (by
    have:=HW.out
    rwa [List.take_of_length_le (by rw[HM.out];exact Nat.le_refl _)]at this)
   go_wp2;go_ret
   exact⟨_,rfl,HW2.out,by omega,HB.out⟩
end
def badL(z:Int):Bool:=decide (z<0)||decide (1000<z)
theorem badL_any(z:Int)(w:World):Calls Tryz.prog 116 #[.int .i64 z] w fun e w'=>e= .returned (.bool (badL z))/\w'=w:=by
 unfold badL;go_enter Tryz.func116,Tryz.ntmps116;go_wp2
 all_goals
  go_ret;refine⟨?_,rfl⟩
  first|rfl|simp
def LeftOk(W L:List Int):Prop:=L.length=W.length/\ ∀z∈L,0<=z/\z<=1000
instance (W L:List Int):Decidable (LeftOk W L):=by unfold LeftOk;infer_instance
def OnOk(O L:List Int):Prop:=(1<=O.length/\O.length<=8)/\ ∀(j:Nat) (x:Int),O[j]? =some x->x= -1\/((0<=x/\x<L.length)/\leftC L x≠0/\x∉O.take j)
def EarlyAt(E:List (Int×Int))(O L:List Int)(j:Nat):Prop:=¬ OverC E L (j:Int)/\(leftC L (j:Int)=0\/(j:Int)∈O)
def Early(E:List (Int×Int))(O L:List Int):Prop:=∃ j:Nat,j<L.length/\EarlyAt E O L j
theorem crew_parts{W:List Int}{E:List (Int×Int)}{O L:List Int}:CrewOk W.length E O L↔LeftOk W L/\OnOk O L/\ ¬Early E O L:=by
 rw[crewOk_iff];constructor
 ·rintro ⟨⟨h1,h2,h3⟩,h4,h5,h6⟩
  refine⟨⟨h3,fun z hz=> ?_⟩,⟨⟨h1,h2⟩,fun j x hx=> ?_⟩,?_⟩
  ·obtain ⟨j,hj,he⟩:=List.getElem_of_mem hz
   have:=h4 j hj
   rwa [leftC_at (z:=z) (by rw[List.getElem?_eq_getElem hj,he])]at this
  ·rcases h6 j x hx with q | ⟨q1,q2,q3,q4⟩
   ·exact .inl q
   ·exact .inr ⟨by rw[h3];exact q1,q2,q4⟩
  ·rintro ⟨j,hj,h7,h8 | h8⟩
   ·exact h7 (h5 j hj h8)
   ·obtain ⟨i,hi,he⟩:=List.getElem_of_mem h8
    rcases h6 i (j:Int) (by rw[List.getElem?_eq_getElem hi,he])with q|⟨_,_,q3,_⟩
    ·omega
    ·exact h7 q3
 ·rintro ⟨⟨h1,h2⟩,⟨h3,h4⟩,h5⟩
  refine⟨⟨h3.1,h3.2,h1⟩,fun j hj=>h2 _ (leftC_mem hj),fun j hj h0=> ?_,fun j x hx=> ?_⟩
  ·apply Classical.byContradiction
   exact fun q=>h5 ⟨j,hj,q,.inl h0⟩
  ·rcases h4 j x hx with q | ⟨q1,q2,q4⟩
   ·exact .inl q
   ·refine .inr ⟨by rw [<- h1]; exact q1,q2,?_,q4⟩
    obtain⟨k,rfl⟩: ∃k:Nat,x=k:=⟨x.toNat,by omega⟩
    apply Classical.byContradiction
    exact fun q=>h5 ⟨k,by omega,q,.inr (List.mem_of_getElem? hx)⟩
section
variable {A: Option Addr} {n c: Nat} {F: Option Addr} {m d: Nat} {W: List Int} {E: List (Int × Int)} {N: Option Addr} {nn nc: Nat} {L: List Int}
theorem lefts_any(w:World)(hn:L.length=nn)(hl:nn<=1000)(hI:Ints w w.heap.size N L):
  Calls Tryz.prog 32 #[.slice N nn nc,.func (.func 116) #[] #[]] w fun e w'=>e= .returned (.bool (decide (∃z∈L,badL z=true)))/\w'=w:=by
 refine(has_int N nc nn L 116 #[] (eg_of Tryz.func116 (by kernel_rfl) rfl) (fun k=>match L[k]? with|some z=>badL z|none=>false) (fun _ x=>x=w) w.heap.size hn hl (fun _ x hx=>hx▸hI) (fun k x W' hk hW=> ?_) (decide (∃z∈L,badL z=true)) ?_ w rfl).mono ?_
 ·subst hW
  have:=badL_any x W';simp only[hk];exact this.mono fun e w' h=>h
 ·rw [decide_eq_true_iff]
  constructor
  ·rintro ⟨z,hz,hb⟩
   obtain⟨j,hj,he⟩:=List.getElem_of_mem hz;exact⟨j,by omega,by rw[List.getElem?_eq_getElem hj,he];exact hb⟩
  ·rintro ⟨j,hj,hb⟩
   have hj':j<L.length:=by omega
   rw[List.getElem?_eq_getElem hj']at hb
   exact⟨_,List.getElem_mem hj',hb⟩
 ·rintro e w' ⟨rfl,k,hk⟩
  exact⟨rfl,hk⟩
theorem leftOk_iff(hn:L.length=nn)(hW:W.length=n):LeftOk W L↔nn=n/\ ¬(∃z∈L,badL z=true):=by
 unfold LeftOk;rw[hn,hW];constructor
 ·rintro ⟨h1,h2⟩
  refine⟨h1,fun⟨z,hz,hb⟩=> ?_⟩
  have:=h2 z hz;simp[badL]at hb;omega
 ·rintro ⟨h1,h2⟩
  refine⟨h1,fun z hz=> ?_⟩
  apply Classical.byContradiction
  intro hb;refine h2 ⟨z,hz,?_⟩
  simp[badL];omega
theorem rightLeft_any(w:World)(hn:L.length=nn)(hl:nn<=1000)(hW:W.length=n)(hI:Ints w w.heap.size N L):
    Calls Tryz.prog 86 #[.agg #[.slice A n c, .slice F m d], .slice N nn nc] w fun e w'=>e= .returned (.bool (decide (LeftOk W L)))/\Below w.heap.size w w':=by
  have hF:=leftOk_iff hn hW;have C:=Lib.hid (fun(W':World) (hI:Ints W' W'.heap.size N L)=>lefts_any (nc:=nc) W' hn hl hI)
  have HI:Hid (Ints (w.alloc (.cells #[.slice A n c, .slice F m d] 25)) (w.alloc (.cells #[.slice A n c, .slice F m d] 25)).heap.size N L):=Lib.hid ((hI.alloc (Nat.le_refl _) _).more (by simp))
  obtain⟨r,hr⟩: ∃r,r=decide (LeftOk W L):=⟨_,rfl⟩;obtain⟨b,hb⟩: ∃b,b=decide (∃z∈L,badL z=true):=⟨_,rfl⟩;rw[<-hr];rw[<-hb]at C;have hrv:r=decide (nn=n/\b=false):=by
    rw[hr];refine decide_eq_decide.mpr (hF.trans ?_)
    rw[hb,decide_eq_false_iff_not]
  clear hF hI hr hb hn hW hl
  by_cases h1:nn=n
  · subst h1;obtain rfl:r= !b:=by rw[hrv];cases b<;>simp
    clear hrv;cases b with
    | true =>
      go_enter Tryz.func86,Tryz.ntmps86;go_wp2_with fail;refine(C.out _ HI.out).mono ?_
      rintro e w1 ⟨rfl,rfl⟩;go_wp2;go_ret;exact⟨rfl,below_alloc _⟩
    | false =>
      go_enter Tryz.func86,Tryz.ntmps86;go_wp2_with fail;refine(C.out _ HI.out).mono ?_
      rintro e w1 ⟨rfl,rfl⟩;go_wp2;go_ret;exact⟨rfl,below_alloc _⟩
  · obtain rfl:r=false:=by rw[hrv];simp[h1]
    clear hrv;have h1':((nn:Int)==(n:Int))=false:=by simpa using(fun q:(nn:Int)=(n:Int)=>h1 (by omega))
    clear C h1;go_enter Tryz.func86,Tryz.ntmps86;go_wp2;go_ret;exact⟨rfl,below_alloc _⟩
end
section
variable {A: Option Addr} {n c: Nat} {F: Option Addr} {m d: Nat} {W: List Int} {E: List (Int × Int)} {A': Option Addr} {n' c': Nat} {F': Option Addr} {m' d': Nat} {O L: List Int}
structure BxK(w0:World)(A:Option Addr)(n c:Nat)(F:Option Addr)(m d:Nat)(O L:List Int)(w:World):Prop where
 bel:Below w0.heap.size w0 w
 lt:w0.heap.size<w.heap.size
 c0:w.cell? ⟨w0.heap.size,0,none⟩=some (.slice A n c)
 c1:w.cell? ⟨w0.heap.size,1,none⟩=some (.slice F m d)
 k0:IsC w0 A n c F m d O L
theorem BxK.k{w0 w:World}(h:BxK w0 A n c F m d O L w):IsC w A n c F m d O L:=h.k0.below h.bel
theorem BxK.next{w0 w w':World}(h:BxK w0 A n c F m d O L w)(hb:Below w.heap.size w w'):BxK w0 A n c F m d O L w':=
 ⟨h.bel.trans (hb.mono h.bel.size),Nat.lt_of_lt_of_le h.lt hb.size,(hb.cell h.lt).trans h.c0,(hb.cell h.lt).trans h.c1,h.k0⟩
theorem BxK.start{w:World}(hk:IsC w A n c F m d O L):BxK w A n c F m d O L (w.alloc (.cells #[.slice A n c,.slice F m d] 37)):=
 ⟨below_alloc _,by simp,by rw[World.cell?_alloc_at _ _ _ _ rfl];rfl,by rw[World.cell?_alloc_at _ _ _ _ rfl];rfl,hk⟩
open Classical in
theorem rightOn_any(w:World)(hk:IsC w A' n' c' F' m' d' O L):
  Calls Tryz.prog 87 #[.agg #[.slice A' n' c',.slice F' m' d']] w fun e w'=>e= .returned (.bool (decide (OnOk O L)))/\Below w.heap.size w w':=by
 obtain⟨w1,hw1⟩: ∃w1,w1=w.alloc (.cells #[.slice A' n' c',.slice F' m' d'] 37):=⟨_,rfl⟩;have B0:Hid (BxK w A' n' c' F' m' d' O L w1):=Lib.hid (by rw[hw1];exact BxK.start hk)
 have HW:=Lib.hid hw1;have HO:=Lib.hid hk.hn;have HM:=Lib.hid hk.hm;have ln:=hk.ln;have hcA:=hk.cA;obtain⟨r,hr⟩: ∃r,r=decide (OnOk O L):=⟨_,rfl⟩;rw[<-hr];have HRN:Hid (¬OnOk O L->r=false):=Lib.hid (fun h=>by rw[hr];exact decide_eq_false h)
 have HRY:Hid (OnOk O L->r=true):=Lib.hid (fun h=>by rw[hr];exact decide_eq_true h)
 clear hw1 hk hr;have q0:=B0.out.c0;have q1:=B0.out.c1
 by_cases h1:n'<1
 ·obtain rfl: r = false:=HRN.out fun h => by have:=h.1.1; have:=HO.out; omega
  obtain rfl:n'=0:=by omega
  go_enter Tryz.func87,Tryz.ntmps87;go_wp2;go_ret;exact⟨rfl,by rw[<-HW.out];exact B0.out.bel⟩
 have h1a:decide ((n':Int)<1)=false:=decide_eq_false (by omega)
 have h1b:decide (n'<1)=false:=decide_eq_false (by omega)
 by_cases h2:8<n'
 ·obtain rfl: r = false:=HRN.out fun h => by have:=h.1.2; have:=HO.out; omega
  have h2a:decide ((8:Int)<(n':Int))=true:=decide_eq_true (by omega)
  have h2b:decide (8<n')=true:=decide_eq_true (by omega)
  go_enter Tryz.func87,Tryz.ntmps87;go_wp2;go_ret;exact⟨rfl,by rw[<-HW.out];exact B0.out.bel⟩
 have h2a:decide ((8:Int)<(n':Int))=false:=decide_eq_false (by omega)
 have h2b:decide (8<n')=false:=decide_eq_false (by omega)
 have hn1:1<=n':=by omega
 have hn8:n'<=8:=by omega
 clear h1 h2;go_enter Tryz.func87,Tryz.ntmps87;go_wp2;rw[<-HW.out];clear HW;go_wp2;go_loopw [18] (fun i wr=> ∃j:Nat,j<=n'/\i= .int .i64 j/\Hid (∀(i:Nat) (x:Int),i<j->O[i]? =some x->x= -1\/((0<=x/\x<L.length)/\leftC L x≠0/\x∉O.take i))/\Hid (BxK w A' n' c' F' m' d' O L wr)) (fun i _=>n' - (intOf i).toNat)
 case atStart=>exact⟨0,Nat.zero_le _,rfl,Lib.hid (fun i x hi=>absurd hi (by omega)),B0⟩
 case round=>
  obtain⟨j,hj,rfl,HE,HB⟩:=hrel;clear B0 q0 q1;have q0:=HB.out.c0;have q1:=HB.out.c1
  by_cases hlt:j<n'
  ·obtain ⟨bk,off,x,rfl,hbk,hxk,d1⟩:=HB.out.k.on.at_ (k:=j) (by rw [HO.out]; exact hlt)
   have HXK:=Lib.hid hxk;have HXN:Hid (OnOk O L->x= -1\/((0<=x/\x<L.length)/\leftC L x≠0/\x∉O.take j)):=Lib.hid (fun h=>h.2 j x hxk)
   clear hxk hbk
   by_cases x2:x= -1
   ·subst x2
    have HE2:Hid (∀(i:Nat) (x:Int),i<j+1->O[i]? =some x->x= -1\/((0<=x/\x<L.length)/\leftC L x≠0/\x∉O.take i)):=Lib.hid (fun i x hi hx=>by
     rcases Nat.lt_or_ge i j with h|h
     ·exact HE.out i x h hx
     ·obtain rfl: i = j:=by omega
      rw[HXK.out]at hx;exact .inl (Option.some.inj hx).symm)
    go_wp2;go_roundw
    case rel=>exact⟨j+1,by omega,by go_num,HE2,HB⟩
    case measure=>simp[intOf];omega
   have x2a:(x== -1)=false:=beq_eq_false_iff_ne.mpr x2
   by_cases x1:x<0
   ·obtain rfl: r = false:=HRN.out fun h => by rcases HXN.out h with q | ⟨q,_⟩ <;> omega
    have x1a:decide (x<0)=true:=decide_eq_true x1;go_wp2;go_ret;exact⟨rfl,HB.out.bel⟩
   have x1a:decide (x<0)=false:=decide_eq_false x1;have HNE:=Lib.hid x2;obtain⟨q,rfl⟩: ∃q:Nat,x=q:=⟨x.toNat,by omega⟩
   clear x1 x2
   by_cases x3:m'<=q
   ·obtain rfl: r = false:=HRN.out fun h => by rcases HXN.out h with q | ⟨q,_⟩ <;> have:=HM.out <;> omega
    have x3a:decide ((m':Int)<=(q:Int))=true:=decide_eq_true (by omega)
    have x3b:decide (m'<=q)=true:=decide_eq_true (by omega)
    go_wp2;go_ret
    exact⟨rfl,HB.out.bel⟩
   have x3a:decide ((m':Int)<=(q:Int))=false:=decide_eq_false (by omega)
   have x3b:decide (m'<=q)=false:=decide_eq_false (by omega)
   have hqm:q<m':=by omega
   clear x3;obtain⟨b2,off2,y,rfl,hbg2,hy,d2⟩:=HB.out.k.left.at_ (k:=q) (by rw[HM.out];exact hqm)
   have HY:Hid (leftC L (q:Int)=y):=Lib.hid (leftC_at hy);clear hy hbg2
   by_cases hy1:y=0
   ·obtain rfl: r = false:=HRN.out fun h => by
     rcases HXN.out h with q1|⟨_,q2,_⟩
     ·exact HNE.out q1
     ·exact q2 (HY.out.trans hy1)
    subst hy1;go_wp2;go_ret;exact⟨rfl,HB.out.bel⟩
   have hy1a:(y==0)=false:=beq_eq_false_iff_ne.mpr hy1;have HY1:=Lib.hid hy1;clear hy1;have hjc:j<=c':=by omega
   have C3:=Lib.hid (contains_any (some ⟨bk,off,none⟩) c' j (O.take j) (q:Int) wr.heap.size wr (by rw[List.length_take,HO.out];omega) (by omega) (HB.out.k.on.take j))
   by_cases hm:(q:Int)∈O.take j
   ·obtain rfl: r = false:=HRN.out fun h => by
     rcases HXN.out h with q1|⟨_,_,q2⟩
     ·exact HNE.out q1
     ·exact q2 hm
    rw[decide_eq_true hm]at C3;clear hm;go_wp2_with fail;refine C3.out.mono ?_
    rintro e w3 ⟨rfl,rfl⟩;go_wp2;go_ret;exact⟨rfl,HB.out.bel⟩
   ·have HE2: Hid (∀ (i: Nat) (x: Int),i < j + 1 -> O[i]? = some x -> x = -1 \/ ((0 <= x /\ x < L.length) /\ leftC L x ≠ 0 /\ x ∉ O.take i)):=Lib.hid (fun i x hi hx => by
     rcases Nat.lt_or_ge i j with h|h
     ·exact HE.out i x h hx
     ·obtain rfl: i = j:=by omega
      rw[HXK.out]at hx;obtain rfl:(q:Int)=x:=Option.some.inj hx;exact .inr ⟨⟨by omega,by have:=HM.out;omega⟩,by rw[HY.out];exact HY1.out,hm⟩)
    rw[decide_eq_false hm]at C3;clear hm;go_wp2_with fail;refine C3.out.mono ?_
    rintro e w3 ⟨rfl,rfl⟩;go_wp2;go_roundw
    case rel=>exact⟨j+1,by omega,by go_num,HE2,HB⟩
    case measure=>simp[intOf];omega
  ·obtain rfl: n' = j:=by omega
   obtain rfl:r=true:=HRY.out ⟨⟨by have:=HO.out;omega,by have:=HO.out;omega⟩,fun i x hx=>HE.out i x (by have:=(List.getElem?_eq_some_iff.1 hx).1;have:=HO.out;omega) hx⟩
   go_wp2;go_ret
   exact⟨rfl,HB.out.bel⟩
open Classical in
theorem tooEarly_any(w:World)(hg:IsG w A n c F m d W E)(hk:IsC w A' n' c' F' m' d' O L)(hF:Fits W.length E)(h64:W.length<=64)(hL:L.length=W.length):
  Calls Tryz.prog 88 #[.agg #[.slice A n c,.slice F m d],.agg #[.slice A' n' c',.slice F' m' d']] w fun e w'=>e= .returned (.bool (decide (Early E O L)))/\Below w.heap.size w w':=by
 obtain⟨w0,hw0⟩: ∃w0,w0=(w.alloc (.cells #[.slice A n c,.slice F m d] 25)).alloc (.cells #[.slice A' n' c',.slice F' m' d'] 37):=⟨_,rfl⟩;have B0:Hid (BxDC w A n c F m d W E A' n' c' F' m' d' O L w0):=Lib.hid (by rw[hw0];exact BxDC.start hg hk)
 have HW:=Lib.hid hw0;have HO:=Lib.hid hk.hn;have HM:=Lib.hid hk.hm;have ln:=hk.ln;have hm64:m'<=64:=by have:=hk.hm;omega
 have CW:=Lib.hid (waiting_any (q:=d') w0 B0.out.g hF h64 B0.out.k.hm hL B0.out.k.left);obtain⟨r,hr⟩: ∃r,r=decide (Early E O L):=⟨_,rfl⟩;rw[<-hr];have HRN:Hid (¬Early E O L->r=false):=Lib.hid (fun h=>by rw[hr];exact decide_eq_false h)
 have HRY:Hid (Early E O L->r=true):=Lib.hid (fun h=>by rw[hr];exact decide_eq_true h)
 clear hg hk hF hL h64 hw0 hr;have p0:=B0.out.d0;have p1:=B0.out.d1;have q0:=B0.out.c0;have q1:=B0.out.c1;go_enter Tryz.func88,Tryz.ntmps88;go_wp2_with fail;rw[<-HW.out];clear HW;go_wp2_with fail;refine CW.out.mono ?_
 rintro e w1 ⟨g,rfl,hwb,hg,b1⟩;have B1:Hid (BxDC w A n c F m d W E A' n' c' F' m' d' O L w1/\WaitB g E L w1):=Lib.hid ⟨B0.out.next b1,hwb⟩;clear hwb hg b1 B0 CW p0 p1 q0 q1;have q0:=B1.out.1.c0;have q1:=B1.out.1.c1;go_wp2;go_loopw [15] (fun i wr=> ∃j:Nat,j<=m'/\i= .int .i64 j/\Hid (∀i:Nat,i<j-> ¬EarlyAt E O L i)/\Hid (BxDC w A n c F m d W E A' n' c' F' m' d' O L wr/\WaitB g E L wr)) (fun i _=>m' - (intOf i).toNat)
 case atStart=>exact⟨0,Nat.zero_le _,rfl,Lib.hid (fun i hi=>absurd hi (by omega)),B1⟩
 case round=>
  obtain⟨j,hj,rfl,HE,HB⟩:=hrel;clear B1 q0 q1;have q0:=HB.out.1.c0;have q1:=HB.out.1.c1
  by_cases hlt:j<m'
  ·obtain ⟨bk,off,y,rfl,hbk,hy,d1⟩:=HB.out.1.k.left.at_ (k:=j) (by rw [HM.out]; exact hlt)
   have HY:Hid (leftC L (j:Int)=y):=Lib.hid (leftC_at hy);have C1:=Lib.hid (waits_any j wr HB.out.2 (by omega))
   clear hy hbk;have HST:Hid (¬EarlyAt E O L j-> ∀i:Nat,i<j+1-> ¬EarlyAt E O L i):=Lib.hid (fun h i hi=>by
    rcases Nat.lt_or_ge i j with h1|h1
    ·exact HE.out i h1
    ·obtain rfl: i = j:=by omega
     exact h)
   have HYES:Hid (EarlyAt E O L j->r=true):=Lib.hid (fun h=>HRY.out ⟨j,by rw[HM.out];exact hlt,h⟩)
   by_cases ho:OverC E L (j:Int)
   ·have HNX:=Lib.hid (HST.out fun q => q.1 ho)
    rw[decide_eq_false (fun q=>q ho)]at C1
    clear ho
    go_wp2_with(go_at_call 137;refine C1.out.mono ?_;rintro e w' ⟨rfl,rfl⟩)
    go_roundw
    case rel=>exact⟨j+1,by omega,by go_num,HNX,HB⟩
    case measure=>simp[intOf];omega
   ·have HOV:=Lib.hid ho
    rw[decide_eq_true ho]at C1;clear ho
    by_cases hy0:y=0
    ·obtain rfl: r = true:=HYES.out ⟨HOV.out,.inl (HY.out.trans hy0)⟩
     subst hy0
     go_wp2_with(go_at_call 137;refine C1.out.mono ?_;rintro e w' ⟨rfl,rfl⟩)
     go_ret;exact⟨rfl,HB.out.1.bel⟩
    ·have hy0a: (y == 0) = false:=beq_eq_false_iff_ne.mpr hy0
     have HY0:=Lib.hid hy0;have C2:=Lib.hid (contains_any A' c' n' O (j:Int) wr.heap.size wr HO.out (by omega) HB.out.1.k.on)
     clear hy0
     by_cases hm:(j:Int)∈O
     ·obtain rfl: r = true:=HYES.out ⟨HOV.out,.inr hm⟩
      rw[decide_eq_true hm]at C2;clear hm
      go_wp2_with(first|(go_at_call 137;refine C1.out.mono ?_;rintro e w' ⟨rfl,rfl⟩)|(refine C2.out.mono ?_;rintro e w' ⟨rfl,rfl⟩))
      go_ret;exact⟨rfl,HB.out.1.bel⟩
     ·have HNX:=Lib.hid (HST.out fun q => by
       rcases q.2 with q2|q2
       ·exact HY0.out (HY.out.symm.trans q2)
       ·exact hm q2)
      rw[decide_eq_false hm]at C2;clear hm
      go_wp2_with(first|(go_at_call 137;refine C1.out.mono ?_;rintro e w' ⟨rfl,rfl⟩)|(refine C2.out.mono ?_;rintro e w' ⟨rfl,rfl⟩))
      go_roundw
      case rel=>exact⟨j+1,by omega,by go_num,HNX,HB⟩
      case measure=>simp[intOf];omega
  ·obtain rfl: m' = j:=by omega
   obtain rfl:r=false:=HRN.out fun⟨i,hi,h⟩=>HE.out i (by rw[<-HM.out];exact hi) h
   go_wp2;go_ret
   exact⟨rfl,HB.out.1.bel⟩
open Classical in
theorem ccheck_any(w:World)(hg:IsG w A n c F m d W E)(hk:IsC w A' n' c' F' m' d' O L):
  Calls Tryz.prog 48 #[.agg #[.slice A n c,.slice F m d],.agg #[.slice A' n' c',.slice F' m' d']] w fun e w'=>e= .returned (.int .i64 (crewE W E O L))/\Below w.heap.size w w':=by
 obtain⟨w0,hw0⟩: ∃w0,w0=(w.alloc (.cells #[.slice A n c,.slice F m d] 25)).alloc (.cells #[.slice A' n' c',.slice F' m' d'] 37):=⟨_,rfl⟩;have B0:Hid (BxDC w A n c F m d W E A' n' c' F' m' d' O L w0):=Lib.hid (by rw[hw0];exact BxDC.start hg hk)
 have HW:=Lib.hid hw0;have CK:=Lib.hid (check_done w0 B0.out.g);have lm:=hk.lm;have hW:=hg.hn;obtain⟨r,hr⟩: ∃r,r=crewE W E O L:=⟨_,rfl⟩;rw[<-hr];have HR:=Lib.hid hr;clear hw0 hr;have p0:=B0.out.d0;have p1:=B0.out.d1;have q0:=B0.out.c0;have q1:=B0.out.c1
 by_cases he:chkE W E=0
 ·have hM:=chkE_zero.mp he
  have C1:=Lib.hid (fun(W':World) (hb:Below w.heap.size w W')=>rightLeft_any (A:=A) (c:=c) (F:=F) (m:=m) (d:=d) (W:=W) (nc:=d') W' hk.hm (by omega) hW ((hk.left.below hb).more hb.size))
  have C2:=Lib.hid (fun(W':World) (hb:Below w.heap.size w W')=>rightOn_any W' (hk.below hb))
  have C3:=Lib.hid (fun(hL:L.length=W.length) (W':World) (hb:Below w.heap.size w W')=>tooEarly_any W' (hg.below hb) (hk.below hb) hM.fits hM.nodes hL)
  rw[he]at CK;have HRV:Hid (r=if LeftOk W L/\OnOk O L/\ ¬Early E O L then 0 else 110):=Lib.hid (by
   rw[HR.out]
   by_cases h:CrewOk W.length E O L
   ·rw[if_pos (crew_parts.mp h)];exact crewE_zero.mpr ⟨hM,h⟩
   ·rw[if_neg (fun q=>h (crew_parts.mpr q))];exact crewE_form he h)
  clear hg hk hM HR he hW lm
  by_cases h1:LeftOk W L
  ·rw [decide_eq_true h1] at C1
   by_cases h2:OnOk O L
   ·rw [decide_eq_true h2] at C2
    have C4:=Lib.hid (C3.out h1.1);clear C3
    by_cases h3:Early E O L
    ·rw [decide_eq_true h3] at C4
     obtain rfl:r=110:=by rw[HRV.out,if_neg (fun q=>q.2.2 h3)]
     clear h1 h2 h3;go_enter Tryz.func48,Tryz.ntmps48;go_wp2_with fail;rw[<-HW.out];refine CK.out.mono ?_
     rintro e w1 ⟨rfl,b1⟩;have B1:=Lib.hid (B0.out.next b1);clear b1 B0 CK p0 p1 q0 q1;have p0:=B1.out.d0;have p1:=B1.out.d1;have q0:=B1.out.c0;have q1:=B1.out.c1;go_wp2_with fail;refine(C1.out _ B1.out.bel).mono ?_
     rintro e w2 ⟨rfl,b1⟩;have B2:=Lib.hid (B1.out.next b1);clear b1 B1 p0 p1 q0 q1;have p0:=B2.out.d0;have p1:=B2.out.d1;have q0:=B2.out.c0;have q1:=B2.out.c1;go_wp2_with fail;refine(C2.out _ B2.out.bel).mono ?_
     rintro e w3 ⟨rfl,b1⟩;have B3:=Lib.hid (B2.out.next b1);clear b1 B2 p0 p1 q0 q1;have p0:=B3.out.d0;have p1:=B3.out.d1;have q0:=B3.out.c0;have q1:=B3.out.c1;go_wp2_with fail;refine(C4.out _ B3.out.bel).mono ?_
     rintro e w4 ⟨rfl,b1⟩;have B4:=Lib.hid (B3.out.next b1);clear b1 B3 p0 p1 q0 q1;go_wp2;go_ret;exact⟨rfl,B4.out.bel⟩
    ·rw [decide_eq_false h3] at C4
     obtain rfl:r=0:=by rw[HRV.out,if_pos ⟨h1,h2,h3⟩]
     clear h1 h2 h3;go_enter Tryz.func48,Tryz.ntmps48;go_wp2_with fail;rw[<-HW.out];refine CK.out.mono ?_
     rintro e w1 ⟨rfl,b1⟩;have B1:=Lib.hid (B0.out.next b1);clear b1 B0 CK p0 p1 q0 q1;have p0:=B1.out.d0;have p1:=B1.out.d1;have q0:=B1.out.c0;have q1:=B1.out.c1;go_wp2_with fail;refine(C1.out _ B1.out.bel).mono ?_
     rintro e w2 ⟨rfl,b1⟩;have B2:=Lib.hid (B1.out.next b1);clear b1 B1 p0 p1 q0 q1;have p0:=B2.out.d0;have p1:=B2.out.d1;have q0:=B2.out.c0;have q1:=B2.out.c1;go_wp2_with fail;refine(C2.out _ B2.out.bel).mono ?_
     rintro e w3 ⟨rfl,b1⟩;have B3:=Lib.hid (B2.out.next b1);clear b1 B2 p0 p1 q0 q1;have p0:=B3.out.d0;have p1:=B3.out.d1;have q0:=B3.out.c0;have q1:=B3.out.c1;go_wp2_with fail;refine(C4.out _ B3.out.bel).mono ?_
     rintro e w4 ⟨rfl,b1⟩;have B4:=Lib.hid (B3.out.next b1);clear b1 B3 p0 p1 q0 q1;go_wp2;go_ret;exact⟨rfl,B4.out.bel⟩
   ·rw [decide_eq_false h2] at C2
    obtain rfl:r=110:=by rw[HRV.out,if_neg (fun q=>h2 q.2.1)]
    clear h1 h2 C3;go_enter Tryz.func48,Tryz.ntmps48;go_wp2_with fail;rw[<-HW.out];refine CK.out.mono ?_
    rintro e w1 ⟨rfl,b1⟩;have B1:=Lib.hid (B0.out.next b1);clear b1 B0 CK p0 p1 q0 q1;have p0:=B1.out.d0;have p1:=B1.out.d1;have q0:=B1.out.c0;have q1:=B1.out.c1;go_wp2_with fail;refine(C1.out _ B1.out.bel).mono ?_
    rintro e w2 ⟨rfl,b1⟩;have B2:=Lib.hid (B1.out.next b1);clear b1 B1 p0 p1 q0 q1;have p0:=B2.out.d0;have p1:=B2.out.d1;have q0:=B2.out.c0;have q1:=B2.out.c1;go_wp2_with fail;refine(C2.out _ B2.out.bel).mono ?_
    rintro e w3 ⟨rfl,b1⟩;have B3:=Lib.hid (B2.out.next b1);clear b1 B2 p0 p1 q0 q1;go_wp2;go_ret;exact⟨rfl,B3.out.bel⟩
  ·rw [decide_eq_false h1] at C1
   obtain rfl:r=110:=by rw[HRV.out,if_neg (fun q=>h1 q.1)]
   clear h1 C2 C3;go_enter Tryz.func48,Tryz.ntmps48;go_wp2_with fail;rw[<-HW.out];refine CK.out.mono ?_
   rintro e w1 ⟨rfl,b1⟩;have B1:=Lib.hid (B0.out.next b1);clear b1 B0 CK p0 p1 q0 q1;have p0:=B1.out.d0;have p1:=B1.out.d1;have q0:=B1.out.c0;have q1:=B1.out.c1;go_wp2_with fail;refine(C1.out _ B1.out.bel).mono ?_
   rintro e w2 ⟨rfl,b1⟩;have B2:=Lib.hid (B1.out.next b1);clear b1 B1 p0 p1 q0 q1;go_wp2;go_ret;exact⟨rfl,B2.out.bel⟩
 ·have heb: (chkE W E != 0) = true:=bne_iff_ne.mpr he
  obtain⟨z,hz⟩: ∃z,z=chkE W E:=⟨_,rfl⟩;obtain rfl:r=z:=by rw[HR.out,hz];exact crewE_bad he
  rw[<-hz]at heb CK;clear hg hk HR he hz hW lm;go_enter Tryz.func48,Tryz.ntmps48;go_wp2_with fail;rw[<-HW.out];refine CK.out.mono ?_
  rintro e w1 ⟨rfl,b1⟩;have B1:=Lib.hid (B0.out.next b1);clear b1 B0 CK;go_wp2;go_ret;exact⟨rfl,B1.out.bel⟩
end
end Go.Proofs.YtngdbbligebcbabGreatDoor
namespace Go.Proofs.YtngdbbligebcbabGreatDoor
open Go Go.RowKit
theorem info_partsC{P:Program}{t:TypeId}{z:Value}{s b:Nat}(h:(P.info? t).map (fun i=>(i.zero,i.size,i.bytes))=some (some z,s,b)): ∃i,P.info? t=some i/\i.zero=some z/\i.size=s/\i.bytes=b:=by
  cases hi:P.info? t with
  |none=>rw[hi]at h;cases h
  | some i =>
    rw[hi]at h;simp at h;exact⟨i,rfl,h.1,h.2.1,h.2.2⟩
theorem other_ownC{w w':World}{base:Nat}{e t:TypeId}{s n g:Nat}{v:Value}{xs:List Value}{cs:Array Value}(h:w.ownsRow base e s v n xs)(hg:w.heap[g]? =some (.cells cs t (0,0)))(ht:e≠t)(hk: ∀k,k≠g->w'.heap[k]? =w.heap[k]?):w'.ownsRow base e s v n xs:=by
 refine⟨h.1,?_⟩
 rcases h.2 with hn|⟨g',cap,cur,rfl,hg',hgg,rest⟩
 ·exact .inl hn
 ·refine .inr ⟨g',cap,cur,rfl,hg',?_,rest⟩
  rw[hk g' (fun e1=>by
   subst e1;rw[hg]at hgg;injection hgg with hgg;injection hgg with _ h2 _;exact ht h2.symm)]
  exact hgg
def NewR(t:TypeId)(w:World)(base:Nat)(v:Value):Prop:=∃ g,v= .slice (some ⟨g,0,none⟩) 0 0/\w.heap[g]? =some (.cells #[] t (0,0))/\base<=g
theorem NewR.below{t:TypeId}{w w':World}{base:Nat}{v:Value}(h:NewR t w base v)(hb:Below w.heap.size w w'):NewR t w' base v:=by
 obtain⟨g,e,hg,hl⟩:=h;exact⟨g,e,by rw[hb.block _ (Array.getElem?_eq_some_iff.1 hg).1];exact hg,hl⟩
theorem newR_here(t:TypeId)(w:World)(base:Nat)(hb:base<=w.heap.size):NewR t (w.alloc (.cells #[] t)) base (.slice (some ⟨w.heap.size,0,none⟩) 0 0):=⟨_,rfl,heap_alloc_new w _,hb⟩
theorem row_setC{w:World}{g:Nat}{t:TypeId}{x y:Value}(h:w.heap[g]? =some (.cells #[x,y] t (0,0)))(a b:Value):((w.setCell ⟨g,0,none⟩ a).setCell ⟨g,1,none⟩ b).heap[g]? =some (.cells #[a,b] t (0,0)):=by
 have h1:=heap_setCell_same w g 0 _ _ a h;have h2:=heap_setCell_same _ g 1 _ _ b h1
 simpa using h2
theorem below_setC{w:World}{B g:Nat}(hg:B<=g)(a b:Value):Below B w ((w.setCell ⟨g,0,none⟩ a).setCell ⟨g,1,none⟩ b):=((Below.refl B w).setCell hg a).setCell hg b
theorem size_setC(w:World)(g:Nat)(a b:Value):((w.setCell ⟨g,0,none⟩ a).setCell ⟨g,1,none⟩ b).heap.size=w.heap.size:=by simp[World.setCell]
theorem other_setC(w:World)(g:Nat)(a b:Value): ∀k,k≠g->((w.setCell ⟨g,0,none⟩ a).setCell ⟨g,1,none⟩ b).heap[k]? =w.heap[k]?:=fun k hk=>by rw[heap_setCell_other _ _ _ _ hk,heap_setCell_other _ _ _ _ hk]
theorem ox_storeC{o:Oper}{a:Act}{x:World}{K:Act->World->Prop}{Q:Exit->Act->World->Prop}{s y:Operand}{g:Nat}{u v u0 v0:Value}(hop:o.op= .store 37 s y)(hdst:o.dst=none)
  (hs:a.eval s= .pointer (some ⟨g,0,none⟩)) (hy:a.eval y= .agg #[u,v]) (h1: ∃A n c F m d,u= .slice A n c/\v= .slice F m d) (hg:x.heap[g]? =some (.cells #[u0,v0] 37 (0,0)))
  (hK:K a ((x.setCell ⟨g,0,none⟩ u).setCell ⟨g,1,none⟩ v)):o.wp Tryz.prog a x K Q:=by
 obtain⟨A,n,c,F,m,d,rfl,rfl⟩:=h1;have d0:=cell_of_row x g 0 _ _ _ hg;have z0:=frozen_of_row x g 0 _ _ hg;have d1:=cell_of_row x g 1 _ _ _ hg;have z1:=frozen_of_row x g 1 _ _ hg;have hg1:=heap_setCell_same x g 0 _ _ (.slice A n c) hg;have d1':=cell_of_row _ g 1 _ _ _ hg1;have z1':=frozen_of_row _ g 1 _ _ hg1;simp at d0 d1 d1';have hr:(execOp a.eval o).run Tryz.prog x= .ok .skip ((x.setCell ⟨g,0,none⟩ (.slice A n c)).setCell ⟨g,1,none⟩ (.slice F m d)):=by
  simp only[execOp,hop];rw[hs,hy];simp[go_sem,d0,z0,d1',z1']
 unfold Oper.wp;rw[hr,Oper.upon_skip,hdst];exact hK
theorem own_isC{w:World}{b:Nat}{A:Option Addr}{n c:Nat}{F:Option Addr}{m d:Nat}{O L:List Int}(hu:OwnI w b (.slice A n c) O)(hv:OwnI w b (.slice F m d) L)(hn:O.length=n)(hm:L.length=m)(l1:n<=400)(l2:m<=400):IsC w A n c F m d O L:=
 ⟨hn,hm,l1,l2,hu.ints,hv.ints,fun e=>by subst e;exact hu.none_nil,fun e=>by subst e;exact hv.none_nil,by
  rcases hu.2 with⟨hv,hn⟩|⟨g,cap,cur,hv,hg,hgg,hle,_⟩
  ·injection hv with _ h1 h2
   omega
  ·injection hv with _ h1 h2
   omega⟩
structure OwnC(w:World)(b:Nat)(A:Option Addr)(n c:Nat)(F:Option Addr)(m d:Nat)(O L:List Int):Prop where
 on:OwnI w b (.slice A n c) O
 left:OwnI w b (.slice F m d) L
 hn:O.length=n
 hm:L.length=m
 ln:n<=400
 lm:m<=400
theorem OwnC.isC{w:World}{b:Nat}{A:Option Addr}{n c:Nat}{F:Option Addr}{m d:Nat}{O L:List Int}(h:OwnC w b A n c F m d O L):IsC w A n c F m d O L:=own_isC h.on h.left h.hn h.hm h.ln h.lm
theorem OwnC.next{w w':World}{b:Nat}{A:Option Addr}{n c:Nat}{F:Option Addr}{m d:Nat}{O L:List Int}(h:OwnC w b A n c F m d O L)(hb:Below w.heap.size w w'):OwnC w' b A n c F m d O L:=⟨own_below h.on hb,own_below h.left hb,h.hn,h.hm,h.ln,h.lm⟩
theorem OwnC.down{w:World}{b b':Nat}{A:Option Addr}{n c:Nat}{F:Option Addr}{m d:Nat}{O L:List Int}(h:OwnC w b A n c F m d O L)(hb:b'<=b):OwnC w b' A n c F m d O L:=⟨h.on.down hb,h.left.down hb,h.hn,h.hm,h.ln,h.lm⟩
theorem noOwnC(w:World)(b:Nat):OwnC w b none 0 0 none 0 0 [] []:=⟨⟨rfl,.inl ⟨rfl,rfl⟩⟩,⟨rfl,.inl ⟨rfl,rfl⟩⟩,rfl,rfl,by decide,by decide⟩
end Go.Proofs.YtngdbbligebcbabGreatDoor
