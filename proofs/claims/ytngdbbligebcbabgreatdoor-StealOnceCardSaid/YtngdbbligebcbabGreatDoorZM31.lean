import Derived.Test.YtngdbbligebcbabGreatDoorZM30
import Derived.Test.YtngdbbligebcbabGreatDoorZM26
import Derived.Test.YtngdbbligebcbabGreatDoorZM15
import Derived.Test.YtngdbbligebcbabGreatDoorZM20
set_option linter.unusedVariables false
set_option linter.unusedSimpArgs false
set_option maxRecDepth 100000
set_option maxHeartbeats 8000000
namespace Go.Proofs.YtngdbbligebcbabGreatDoor
open Go Go.RowKit
theorem schedE_nil(W:List Int)(E:List (Int×Int))(need:List Int)(cores:Int):schedE W E need cores []=newE W E need cores:=by
 unfold schedE newE
 by_cases h:chkE W E=0
 ·rw [if_neg (fun q => q h),if_pos h]
  by_cases h2:FormOk W need cores
  ·rw[if_neg (fun q=>q ⟨h2,fun r hr=>by simp at hr⟩),if_pos h2];rfl
  ·rw[if_pos (fun q=>h2 q.1),if_neg h2]
 ·rw[if_pos h,if_neg h]
def GotNewP(W:List Int)(E:List (Int×Int))(need:List Int)(cores:Int)(w:World)(e:Ending)(w':World):Prop:=
 ∃A1 n1 c1 F1 m1 d1,e= .returned (.tuple #[.agg #[.slice A1 n1 c1,.slice F1 m1 d1],.int .i64 (newE W E need cores)])/\OwnC w' w.heap.size A1 n1 c1 F1 m1 d1 (newO W E need cores) (newL W E need cores)/\ApartV (.slice A1 n1 c1) (.slice F1 m1 d1)/\Below w.heap.size w w'
theorem newP_bad{W:List Int}{E:List (Int×Int)}{need:List Int}{cores z:Int}{w w':World}(h:newE W E need cores=z)(hz:z≠0)(hb:Below w.heap.size w w'):GotNewP W E need cores w (.returned (.tuple #[.agg #[.slice none 0 0,.slice none 0 0],.int .i64 z])) w':=by
 refine⟨none,0,0,none,0,0,by rw[h],?_,fun b e=>by simp[Value.ownBlock]at e,hb⟩
 unfold newO newL;rw[if_neg (by rw[h];exact hz),if_neg (by rw[h];exact hz)]
 exact noOwnC _ _
section
variable {A: Option Addr} {n c: Nat} {F: Option Addr} {m d: Nat} {W: List Int} {E: List (Int × Int)} {N: Option Addr} {nn nc: Nat} {need: List Int}
theorem pnew_any(cores:Int)(wf:World)(hg:IsG wf A n c F m d W E)(hn:need.length=nn)(hl:nn<=400)(hI:Ints wf wf.heap.size N need)(hN:N=none->nn=0/\nc=0):
  Calls Tryz.prog 56 #[.agg #[.slice A n c,.slice F m d],.slice N nn nc,.int .i64 cores] wf (GotNewP W E need cores wf):=by
 obtain⟨w0,hw0⟩: ∃w0,w0=(wf.alloc (.cells #[.slice A n c,.slice F m d] 25)).alloc (.cells #[.slice none 0 0,.slice none 0 0] 37):=⟨_,rfl⟩;have HB0:Hid (Below wf.heap.size wf w0):=Lib.hid (by rw[hw0];exact below_alloc2c _ _)
 have hs:w0.heap.size=wf.heap.size+1+1:=by rw[hw0];simp
 have HR0:Hid (w0.heap[wf.heap.size+1]? =some (.cells #[.slice none 0 0,.slice none 0 0] 37 (0,0))):=Lib.hid (by
  have h2:=heap_alloc_new (wf.alloc (.cells #[.slice A n c,.slice F m d] 25)) (.cells #[.slice none 0 0,.slice none 0 0] 37);rw[<-hw0]at h2
  simpa using h2)
 have HD0:Hid (w0.cell? ⟨wf.heap.size,0,none⟩=some (.slice A n c)/\w0.cell? ⟨wf.heap.size,1,none⟩=some (.slice F m d)):=Lib.hid (by
  constructor<;>(rw[hw0,World.cell?_alloc_lt _ _ _ (by simp),World.cell?_alloc_at _ _ _ _ rfl];rfl)
 )
 have HS0:Hid (w0.heap.size=wf.heap.size+1+1):=Lib.hid hs;have CK:=Lib.hid (scheck_any (nc:=nc) (t:=[]) (T:=none) (tn:=0) (tc:=0) cores w0 (hg.below HB0.out) ⟨hn,rfl,hl,by decide,fun r hr=>by simp at hr,(hI.below HB0.out).more HB0.out.size,fun h=>absurd h (by simp),hN,fun _=>⟨rfl,rfl⟩⟩)
 rw[schedE_nil]at CK;have HG:=Lib.hid hg;have HI:=Lib.hid hI;have HN:=Lib.hid hn;have HNN:=Lib.hid hN;have HW:=Lib.hid hw0;obtain⟨z,hz⟩: ∃z,z=newE W E need cores:=⟨_,rfl⟩;rw[<-hz]at CK;have HZE:=Lib.hid hz;have d0:=HD0.out.1;have d1:=HD0.out.2;clear hg hI hn hN hw0 hs hz
 by_cases he:z=0
 ·subst he
  have HE:Hid (newE W E need cores=0):=Lib.hid HZE.out.symm;have hf:=(newE_zero.mp HE.out).2;obtain⟨k,rfl⟩: ∃k:Nat,cores=k:=⟨cores.toNat,by have:=hf.2.2.1;omega⟩
  have hk1:1<=k:=by have:=hf.2.2.1;omega
  have hk8:k<=8:=by have:=hf.2.2.2;omega
  clear hf;go_enter Tryz.func56,Tryz.ntmps56;go_wp2_with fail;rw[<-HW.out];refine CK.out.mono ?_
  rintro e w2 ⟨rfl,b1⟩;have HB2:=Lib.hid (HB0.out.trans (b1.mono HB0.out.size));have HR2:Hid (w2.heap[wf.heap.size+1]? =_):=Lib.hid ((b1.block _ (Array.getElem?_eq_some_iff.1 HR0.out).1).trans HR0.out)
  have hlo:wf.heap.size+1+1<=w2.heap.size:=(Array.getElem?_eq_some_iff.1 HR2.out).1
  have HI2:=Lib.hid ((HI.out.below HB2.out).more HB2.out.size);have CC:=Lib.hid (clone_i w2 N nn nc need HN.out (by omega) HI2.out HNN.out)
  clear b1 d0 d1 CK;go_wp2_with fail;refine CC.out.mono ?_
  rintro e w3 ⟨A1,c1,he,ho,hb3⟩;rw[HN.out]at he ho;subst he;have HO3:=Lib.hid ho;have HB3':=Lib.hid hb3;clear ho hb3 CC;obtain⟨g,hg⟩: ∃g,g=w3.heap.size:=⟨_,rfl⟩;obtain⟨w4,hw4⟩: ∃w4,w4=w3.alloc (.cells #[.slice none 0 0,.slice A1 nn c1] 37):=⟨_,rfl⟩;have H4:Hid (StNw wf w2.heap.size g (.slice none 0 0) (.slice A1 nn c1) (List.replicate 0 (-1)) need w4):=Lib.hid (by
   have hba:=below_alloc (w:=w3) (.cells #[.slice none 0 0,.slice A1 nn c1] 37);have hna:=heap_alloc_new w3 (.cells #[.slice none 0 0,.slice A1 nn c1] 37);rw[<-hw4]at hba hna;rw[<-hg]at hna;have hbb:Below wf.heap.size wf w3:=HB2.out.trans (HB3'.out.mono HB2.out.size);refine⟨hbb.trans (hba.mono hbb.size),hlo,?_,hna,by rw[hg];exact HB3'.out.size,⟨rfl,.inl ⟨rfl,rfl⟩⟩,own_below HO3.out hba,fun q e=>by simp[Value.ownBlock]at e⟩
   rw[hba.block _ (by have:=HB3'.out.size;omega),HB3'.out.block _ (by omega)]
   exact HR2.out)
  have HG3:=Lib.hid hg;have HW4:=Lib.hid hw4;clear hg hw4 HR2 HO3 HB3' HI2;go_wp2;rw[<-HW4.out,<-HG3.out];clear HW4 HG3;go_loopw [22] (fun i wr=> ∃(j:Nat) (A2:Option Addr) (c2:Nat),j<=k/\i= .int .i64 j/\Hid (StNw wf w2.heap.size g (.slice A2 j c2) (.slice A1 nn c1) (List.replicate j (-1)) need wr)) (fun i _=>k - (intOf i).toNat)
  case atStart=>exact⟨0,none,0,Nat.zero_le _,rfl,H4⟩
  case round=>
   clear H4;obtain⟨j,A2,c2,hj,rfl,HB⟩:=hrel;have x0:=cell_of_row wr g 0 _ _ _ HB.out.b;have x1:=cell_of_row wr g 1 _ _ _ HB.out.b;simp at x0 x1
   by_cases hlt:j<k
   ·have hsz: w2.heap.size <= wr.heap.size:=by have:=(Array.getElem?_eq_some_iff.1 HB.out.b).1; have:=HB.out.hg; omega
    have hon:wr.ownsRow w2.heap.size 3 1 (.slice A2 j c2) j ((List.replicate j (-1:Int)).map (Value.int .i64)):=by have h:=HB.out.on;unfold OwnI at h;rw[List.length_replicate]at h;exact h
    have HON:=Lib.hid hon;clear hon
    go_wp2_with(at_builtin;refine wpList_pushXs rfl _ _ 3 22 1 8 (.int .i64 0) Tryz.underlying22 new_cell_info rfl (by omega) (by omega) rfl rfl wr w2.heap.size j _ ((List.replicate j (-1:Int)).map (Value.int .i64)) [.int .i64 (-1)] HON.out rfl (by simp[Value.oneCell']) (by omega) hsz (by first|rfl|simp[Act.eval]) (by first|rfl|simp[Act.eval]) ?_;intro F5 d5 w5 ho5 hr5 hat5;(have HO5:=Lib.hid ho5);(have HR5:=Lib.hid hr5);(have HA5:=Lib.hid hat5);(have hb5:=hr5.heap HB.out.b (by decide));(have q0:=cell_of_row w5 g 0 _ _ _ hb5);(have q1:=frozen_of_row w5 g 0 _ _ hb5);simp at q0;clear ho5 hr5 hat5 hb5)
    go_roundw
    case rel=>exact⟨j+1,F5,d5,by omega,by go_num,Lib.hid (HB.out.push hsz (by unfold OwnI;rw[List.length_replicate,List.replicate_succ',List.map_append];exact HO5.out) HR5.out HA5.out)⟩
    case measure=>simp[intOf];omega
   ·obtain rfl: k = j:=by omega
    have r0:=cell_of_row wr (wf.heap.size+1) 0 _ _ _ HB.out.r;have r1:=cell_of_row wr (wf.heap.size+1) 1 _ _ _ HB.out.r;have z0:=frozen_of_row wr (wf.heap.size+1) 0 _ _ HB.out.r;have z1:=frozen_of_row wr (wf.heap.size+1) 1 _ _ HB.out.r;simp at r0 r1;have HF2:=Lib.hid (row_setC HB.out.r (.slice A2 k c2) (.slice A1 nn c1));have HGT:Hid (GotNewP W E need k wf (.returned (.tuple #[.agg #[.slice A2 k c2,.slice A1 nn c1],.int .i64 0])) ((wr.setCell ⟨wf.heap.size+1,0,none⟩ (.slice A2 k c2)).setCell ⟨wf.heap.size+1,1,none⟩ (.slice A1 nn c1))):=Lib.hid (by
     have hoth:=other_setC wr (wf.heap.size+1) (.slice A2 k c2) (.slice A1 nn c1);have o1:=other_ownC HB.out.on HB.out.r (by decide) hoth
     have o2:=other_ownC HB.out.left HB.out.r (by decide) hoth
     refine⟨A2,k,c2,A1,nn,c1,by rw[HE.out],?_,HB.out.ap,HB.out.bel.trans (below_setC (by omega) _ _)⟩
     unfold newO newL;rw[if_pos HE.out,if_pos HE.out,Int.toNat_natCast];have hlo2:=HB.out.lo;exact⟨OwnI.down o1 (by omega),OwnI.down o2 (by omega),by simp,HN.out,by omega,hl⟩)
    go_wp2;refine bodyPost_ret (v:=.tuple #[.agg #[.slice A2 k c2,.slice A1 nn c1],.int .i64 0]) ?_ rfl HGT.out
    rw[results_cell_tmp rfl];simp[asAddr,run_loadVar_row _ (wf.heap.size+1) _ _ _ _ _ HF2.out Tryz.underlying37 rfl (by kernel_rfl),Result.andThen]
 ·have HE: Hid (newE W E need cores = z):=Lib.hid HZE.out.symm
  have heb:(z !=0)=true:=bne_iff_ne.mpr he;have HZ:=Lib.hid he;clear he;go_enter Tryz.func56,Tryz.ntmps56;go_wp2_with fail;rw[<-HW.out];refine CK.out.mono ?_
  rintro e w2 ⟨rfl,b1⟩;have HB2:=Lib.hid (HB0.out.trans (b1.mono HB0.out.size));have HR2:Hid (w2.heap[wf.heap.size+1]? =_):=Lib.hid ((b1.block _ (Array.getElem?_eq_some_iff.1 HR0.out).1).trans HR0.out)
  have hsz:wf.heap.size+1+1<=w2.heap.size:=(Array.getElem?_eq_some_iff.1 HR2.out).1
  clear b1 d0 d1;have r0:=cell_of_row w2 (wf.heap.size+1) 0 _ _ _ HR2.out;have r1:=cell_of_row w2 (wf.heap.size+1) 1 _ _ _ HR2.out;have z0:=frozen_of_row w2 (wf.heap.size+1) 0 _ _ HR2.out;have z1:=frozen_of_row w2 (wf.heap.size+1) 1 _ _ HR2.out;simp at r0 r1;have HE2:=Lib.hid (row_setC HR2.out (.slice none 0 0) (.slice none 0 0));go_wp2;refine bodyPost_ret (v:=.tuple #[.agg #[.slice none 0 0,.slice none 0 0],.int .i64 z]) ?_ rfl (newP_bad HE.out HZ.out (HB2.out.trans (below_setC (by omega) _ _)))
  rw[results_cell_tmp rfl];simp[asAddr,run_loadVar_row _ (wf.heap.size+1) _ _ _ _ _ HE2.out Tryz.underlying37 rfl (by kernel_rfl),Result.andThen]
end
section
variable {A: Option Addr} {n c: Nat} {F: Option Addr} {m d: Nat} {O L: List Int} {A': Option Addr} {n' c': Nat} {F': Option Addr} {m' d': Nat} {O' L': List Int}
theorem csame_any(w:World)(h:IsC w A n c F m d O L)(h':IsC w A' n' c' F' m' d' O' L'):
  Calls Tryz.prog 51 #[.agg #[.slice A n c,.slice F m d],.agg #[.slice A' n' c',.slice F' m' d']] w fun e w'=>e= .returned (.bool (decide (O=O'/\L=L')))/\Below w.heap.size w w':=by
 obtain⟨w0,hw0⟩: ∃w0,w0=(w.alloc (.cells #[.slice A n c,.slice F m d] 37)).alloc (.cells #[.slice A' n' c',.slice F' m' d'] 37):=⟨_,rfl⟩;have hb0:Below w.heap.size w w0:=by rw[hw0];exact below_alloc2c _ _
 have C1:=eq_ints w0.heap.size A A' c c' O O' w0 (by rw[h.hn];have:=h.ln;omega) (by rw[h'.hn];have:=h'.ln;omega) ((h.below hb0).on) ((h'.below hb0).on)
 have C2:=Lib.hid (fun N=>eq_ints w0.heap.size F F' d d' L L' (w0.drewN N) (by rw[h.hm];have:=h.lm;omega) (by rw[h'.hm];have:=h'.lm;omega) ((h.below hb0).left.below (below_drewN (Below.refl _ _) N)) ((h'.below hb0).left.below (below_drewN (Below.refl _ _) N)))
 rw[h.hn,h'.hn]at C1;simp only[h.hm,h'.hm]at C2;rw[hw0]at C1 C2;have HB:=Lib.hid (fun N=>below_drewN (below_alloc2c (w:=w) (.cells #[.slice A n c,.slice F m d] 37) (.cells #[.slice A' n' c',.slice F' m' d'] 37)) N)
 have HC1:=Lib.hid C1;clear h h' hw0 C1 hb0
 by_cases h1:O=O'
 ·rw [decide_eq_true h1] at HC1
  have hr:decide (O=O'/\L=L')=decide (L=L'):=by simp[h1]
  rw[hr];obtain⟨r,hr⟩: ∃r,r=decide (L=L'):=⟨_,rfl⟩;simp only[<-hr]at C2⊢;clear h1 hr;go_enter Tryz.func51,Tryz.ntmps51;go_wp2_with fail;refine HC1.out.mono ?_
  rintro e w' ⟨rfl,N1,rfl⟩;go_wp2_with fail;refine(C2.out _).mono ?_
  rintro e w' ⟨rfl,M,rfl⟩;go_wp2;go_ret;exact⟨rfl,HB.out _⟩
 ·rw [decide_eq_false h1] at HC1
  rw[decide_eq_false (fun q:O=O'/\L=L'=>h1 q.1)]
  clear h1;go_enter Tryz.func51,Tryz.ntmps51;go_wp2_with fail;refine HC1.out.mono ?_
  rintro e w' ⟨rfl,N1,rfl⟩;go_wp2;go_ret;exact⟨rfl,HB.out N1⟩
end
theorem results_cell_two{fn:Func}{p u t:Tmp}{ty:TypeId}(h:fn.results= #[.cell p ty,.tmp u,.tmp t])(tmps:Array Value)(P:Program)(w:World):
  (results fn tmps).run P w =
   ((asAddr (tmps.getD p undef)).run P w).andThen fun a w₁=>((loadVar ty a).run P w₁).andThen fun v w₂=> .ok (.tuple #[v,tmps.getD u undef,tmps.getD t undef]) w₂:=by
 simp only[results,h];simp[Sem.run_bind,Result.andThen]
structure BxF(wf:World)(A:Option Addr)(n c:Nat)(F:Option Addr)(m d:Nat)(W:List Int)(E:List (Int×Int))(u1 v1:Value)(w:World):Prop where
 bel:Below wf.heap.size wf w
 d0:w.cell? ⟨wf.heap.size,0,none⟩=some (.slice A n c)
 d1:w.cell? ⟨wf.heap.size,1,none⟩=some (.slice F m d)
 r1:w.heap[wf.heap.size+1]? =some (.cells #[u1,v1] 37 (0,0))
 r2:w.heap[wf.heap.size+1+1]? =some (.cells #[.slice none 0 0,.slice none 0 0] 37 (0,0))
 g0:IsG wf A n c F m d W E
section
variable {A: Option Addr} {n c: Nat} {F: Option Addr} {m d: Nat} {W: List Int} {E: List (Int × Int)} {A': Option Addr} {n' c': Nat} {F': Option Addr} {m' d': Nat} {O L: List Int} {wf w w': World} {u1 v1: Value}
theorem BxF.g(h:BxF wf A n c F m d W E u1 v1 w):IsG w A n c F m d W E:=h.g0.below h.bel
theorem BxF.lt(h:BxF wf A n c F m d W E u1 v1 w):wf.heap.size+1+1<w.heap.size:=(Array.getElem?_eq_some_iff.1 h.r2).1
theorem BxF.later(h:BxF wf A n c F m d W E u1 v1 w)(hb:Below (wf.heap.size+1+1+1) w w'):BxF wf A n c F m d W E u1 v1 w':=
 ⟨h.bel.trans (hb.mono (by omega)),(hb.cell (show wf.heap.size<wf.heap.size+1+1+1 by omega)).trans h.d0,(hb.cell (show wf.heap.size<wf.heap.size+1+1+1 by omega)).trans h.d1,(hb.block _ (by omega)).trans h.r1,(hb.block _ (by omega)).trans h.r2,h.g0⟩
theorem BxF.next(h:BxF wf A n c F m d W E u1 v1 w)(hb:Below w.heap.size w w'):BxF wf A n c F m d W E u1 v1 w':=h.later (hb.mono h.lt)
theorem BxF.set1(h:BxF wf A n c F m d W E u1 v1 w)(a b:Value):BxF wf A n c F m d W E a b ((w.setCell ⟨wf.heap.size+1,0,none⟩ a).setCell ⟨wf.heap.size+1,1,none⟩ b):=by
 have hoth:=other_setC w (wf.heap.size+1) a b;have hb:Below (wf.heap.size+1) w ((w.setCell ⟨wf.heap.size+1,0,none⟩ a).setCell ⟨wf.heap.size+1,1,none⟩ b):=below_setC (Nat.le_refl _) _ _;exact⟨h.bel.trans (hb.mono (by omega)),(hb.cell (show wf.heap.size<wf.heap.size+1 by omega)).trans h.d0,(hb.cell (show wf.heap.size<wf.heap.size+1 by omega)).trans h.d1,row_setC h.r1 _ _,by rw[hoth _ (by omega)];exact h.r2,h.g0⟩
theorem BxF.start(hg:IsG w A n c F m d W E)(A':Option Addr)(n' c':Nat)(F':Option Addr)(m' d':Nat):BxF w A n c F m d W E (.slice A' n' c') (.slice F' m' d') (((w.alloc (.cells #[.slice A n c,.slice F m d] 25)).alloc (.cells #[.slice A' n' c',.slice F' m' d'] 37)).alloc (.cells #[.slice none 0 0,.slice none 0 0] 37)):=by
 obtain⟨w0,hw0⟩: ∃w0,w0=w.alloc (.cells #[.slice A n c,.slice F m d] 25):=⟨_,rfl⟩;have s0:w0.heap.size=w.heap.size+1:=by rw[hw0];simp
 have b0:Below w.heap.size w w0:=by rw[hw0];exact below_alloc _
 have d0: ∀j u,(#[.slice A n c,.slice F m d]:Array Value)[j]? =some u->w0.cell? ⟨w.heap.size,j,none⟩=some u:=fun j u hu=>by rw[hw0,World.cell?_alloc_at _ _ _ _ rfl];exact hu
 rw[<-hw0];clear hw0;obtain⟨w1,hw1⟩: ∃w1,w1=w0.alloc (.cells #[.slice A' n' c',.slice F' m' d'] 37):=⟨_,rfl⟩;have s1:w1.heap.size=w.heap.size+1+1:=by rw[hw1];simp[s0]
 have b1:Below w0.heap.size w0 w1:=by rw[hw1];exact below_alloc _
 have r1:w1.heap[w.heap.size+1]? =some (.cells #[.slice A' n' c',.slice F' m' d'] 37 (0,0)):=by rw[hw1,<-s0];exact heap_alloc_new _ _
 rw[<-hw1];clear hw1;obtain⟨w2,hw2⟩: ∃w2,w2=w1.alloc (.cells #[.slice none 0 0,.slice none 0 0] 37):=⟨_,rfl⟩;have b2:Below w1.heap.size w1 w2:=by rw[hw2];exact below_alloc _
 have r2:w2.heap[w.heap.size+1+1]? =some (.cells #[.slice none 0 0,.slice none 0 0] 37 (0,0)):=by rw[hw2,<-s1];exact heap_alloc_new _ _
 rw[<-hw2];refine⟨b0.trans ((b1.mono (by omega)).trans (b2.mono (by omega))),?_,?_,?_,r2,hg⟩
 ·rw[b2.cell (show w.heap.size<w1.heap.size by omega),b1.cell (show w.heap.size<w0.heap.size by omega)];exact d0 0 _ rfl
 ·rw[b2.cell (show w.heap.size<w1.heap.size by omega),b1.cell (show w.heap.size<w0.heap.size by omega)];exact d0 1 _ rfl
 ·rw[b2.block _ (by omega)];exact r1
theorem RowsC.other{B gO:Nat}{FL:Option Addr}{n m cO cL:Nat}{O L:List Int}{w w':World}{g:Nat}{cs:Array Value}(h:RowsC B gO FL n m cO cL O L w)(hg:w.heap[g]? =some (.cells cs 37 (0,0)))(hk: ∀k,k≠g->w'.heap[k]? =w.heap[k]?):RowsC B gO FL n m cO cL O L w':=
 ⟨other_ownC h.rO hg (by decide) hk,other_ownC h.rL hg (by decide) hk,h.ne⟩
theorem RowsC.down{B B' gO:Nat}{FL:Option Addr}{n m cO cL:Nat}{O L:List Int}{w:World}(h:RowsC B gO FL n m cO cL O L w)(hB:B'<=B):RowsC B' gO FL n m cO cL O L w:=⟨h.rO.down hB,h.rL.down hB,h.ne⟩
end
section
variable {A: Option Addr} {n c: Nat} {F: Option Addr} {m d: Nat} {W: List Int} {E: List (Int × Int)} {A': Option Addr} {n' c': Nat} {F': Option Addr} {m' d': Nat} {O L: List Int}
theorem cready_own(w:World)(hz0:crewE W E O L=0)(hg:IsG w A n c F m d W E)(hk:IsC w A' n' c' F' m' d' O L):
  Calls Tryz.prog 59 #[.agg #[.slice A n c,.slice F m d],.agg #[.slice A' n' c',.slice F' m' d']] w (GotOwn (readyV W E O L) w):=by
 obtain⟨w0,hw0⟩: ∃w0,w0=(w.alloc (.cells #[.slice A n c,.slice F m d] 25)).alloc (.cells #[.slice A' n' c',.slice F' m' d'] 37):=⟨_,rfl⟩;have B0:Hid (BxDC w A n c F m d W E A' n' c' F' m' d' O L w0):=Lib.hid (by rw[hw0];exact BxDC.start hg hk)
 have HW:=Lib.hid hw0;have CK:=Lib.hid (ccheck_any w0 B0.out.g B0.out.k);obtain⟨z,hz⟩: ∃z,z=crewE W E O L:=⟨_,rfl⟩;rw[<-hz]at CK;have hmw:=hk.hm;clear hw0 hg hk;have p0:=B0.out.d0;have p1:=B0.out.d1;have q0:=B0.out.c0;have q1:=B0.out.c1
 ·obtain rfl: z = 0:=hz.trans hz0
  obtain⟨hM,hC⟩:=crewE_zero.mp hz.symm;have CR:=Lib.hid (fun W' (h1:IsG W' A n c F m d W E) (h2:IsC W' A' n' c' F' m' d' O L)=>pready_any W' h1 h2 hM.fits hM.nodes hC.ln)
  have HV:Hid (readyV W E O L=readyW E O L m'):=Lib.hid (by unfold readyV;rw[if_pos hz.symm,<-hC.ln,hmw])
  clear hM hC hz hmw;go_enter Tryz.func59,Tryz.ntmps59;go_wp2_with fail;rw[<-HW.out];refine CK.out.mono ?_
  rintro e w1 ⟨rfl,b1⟩;have B1:=Lib.hid (B0.out.next b1);clear b1 B0 CK p0 p1 q0 q1;have p0:=B1.out.d0;have p1:=B1.out.d1;have q0:=B1.out.c0;have q1:=B1.out.c1;go_wp2_with fail;refine(CR.out w1 B1.out.g B1.out.k).mono ?_
  rintro e w2 ⟨A1,c1,rfl,ho,b2⟩;have B2:=Lib.hid (B1.out.next b2);have HO:=Lib.hid ho;clear ho b2;go_wp2;go_ret;exact⟨A1,c1,by rw[HV.out];rfl,by rw[HV.out];exact HO.out.down B1.out.bel.size,B2.out.bel⟩
end
section
variable {A: Option Addr} {n c: Nat} {F: Option Addr} {m d: Nat} {W: List Int} {E: List (Int × Int)} {A': Option Addr} {n' c': Nat} {F': Option Addr} {m' d': Nat} {O L: List Int} {wf w w': World} {u1 v1: Value}
theorem ctick_own(w:World)(hz0:crewE W E O L=0)(hg:IsG w A n c F m d W E)(hk:IsC w A' n' c' F' m' d' O L):
  Calls Tryz.prog 65 #[.agg #[.slice A n c,.slice F m d],.agg #[.slice A' n' c',.slice F' m' d']] w fun e w'=> ∃gO cO FL cL A5 c5,e= .returned (.tuple #[.agg #[.slice (some ⟨gO,0,none⟩) n' cO,.slice FL m' cL],.slice A5 (nums (doneT O L)).length c5,.int .i64 0])/\RowsC w.heap.size gO FL n' m' cO cL (onT O L) (leftT O L) w'/\OwnI w' w.heap.size (.slice A5 (nums (doneT O L)).length c5) (nums (doneT O L))/\Below w.heap.size w w':=by
 obtain⟨w0,hw0⟩: ∃w0,w0=((w.alloc (.cells #[.slice A n c,.slice F m d] 25)).alloc (.cells #[.slice A' n' c',.slice F' m' d'] 37)).alloc (.cells #[.slice none 0 0,.slice none 0 0] 37):=⟨_,rfl⟩;have B0:Hid (BxF w A n c F m d W E (.slice A' n' c') (.slice F' m' d') w0):=Lib.hid (by rw[hw0];exact BxF.start hg _ _ _ _ _ _)
 have HW:=Lib.hid hw0;have CK:=Lib.hid (ccheck_any w0 B0.out.g (hk.below B0.out.bel));obtain⟨z,hz⟩: ∃z,z=crewE W E O L:=⟨_,rfl⟩;rw[<-hz]at CK;have HZ:=Lib.hid hz;have HK:=Lib.hid hk;have HG:=Lib.hid hg;have ln:=hk.ln;have lm:=hk.lm;clear hw0 hg hk hz;have p0:=B0.out.d0;have p1:=B0.out.d1;have q0:=cell_of_row _ _ 0 _ _ _ B0.out.r1;have q1:=cell_of_row _ _ 1 _ _ _ B0.out.r1;simp at q0 q1
 ·obtain rfl: z = 0:=HZ.out.trans hz0
  obtain⟨hM,hC⟩:=crewE_zero.mp HZ.out.symm;have hn0:0<n':=by have:=hC.lo;have:=HK.out.hn;omega
  have HV:Hid (tickO W E O L=onT O L/\tickL W E O L=leftT O L/\tickD W E O L=nums (doneT O L)):=Lib.hid (by
   unfold tickO tickL tickD;rw[if_pos HZ.out.symm,if_pos HZ.out.symm,if_pos HZ.out.symm];exact⟨rfl,rfl,rfl⟩)
  have CC:=Lib.hid (fun W' (h:IsC W' A' n' c' F' m' d' O L)=>copied_any W' h hn0)
  have CF:=Lib.hid (fun W' gO cO FL cL (hr:RowsC (w.heap.size+1+1+1) gO FL n' m' cO cL O L W')=>ptick_any (w.heap.size+1+1+1) W' hr (fun x hx=>(hC.on x hx).imp id fun q=>⟨q.1.1,by rw[hC.ln];exact q.1.2⟩) hC.once hC.left ln lm)
  clear hM hC;go_enter Tryz.func65,Tryz.ntmps65;go_wp2_with fail;rw[<-HW.out];refine CK.out.mono ?_
  rintro e w1 ⟨rfl,b1⟩;have B1:=Lib.hid (B0.out.next b1);clear b1 B0 CK p0 p1 q0 q1 HW;have q0:=cell_of_row _ _ 0 _ _ _ B1.out.r1;have q1:=cell_of_row _ _ 1 _ _ _ B1.out.r1;simp at q0 q1;go_wp2_with fail;refine(CC.out w1 (HK.out.below B1.out.bel)).mono ?_
  rintro e w2 ⟨gO,cO,FL,cL,rfl,hr2,b2⟩;have B2:=Lib.hid (B1.out.next b2);have HR2:=Lib.hid (hr2.down B1.out.lt);clear hr2 b2 B1 CC q0 q1;have q0:=cell_of_row _ _ 0 _ _ _ B2.out.r1;have q1:=cell_of_row _ _ 1 _ _ _ B2.out.r1;have z0:=frozen_of_row w2 (w.heap.size+1) 0 _ _ B2.out.r1;have z1:=frozen_of_row w2 (w.heap.size+1) 1 _ _ B2.out.r1;have B3:=Lib.hid (B2.out.set1 (.slice (some ⟨gO,0,none⟩) n' cO) (.slice FL m' cL));have HSZ:=Lib.hid B3.out.bel.size;have HR3:=Lib.hid (HR2.out.other B2.out.r1 (other_setC w2 (w.heap.size+1) (.slice (some ⟨gO,0,none⟩) n' cO) (.slice FL m' cL)));have u0:=cell_of_row _ _ 0 _ _ _ B3.out.r1;have u1:=cell_of_row _ _ 1 _ _ _ B3.out.r1;have l2:w.heap.size+1<w2.heap.size:=by have:=B2.out.lt;omega
  simp at q0 q1 u0 u1
  go_wp2_with fail;refine(CF.out _ gO cO FL cL HR3.out).mono ?_
  rintro e w4 ⟨A5,k5,c5,gL,rfl,hd,hkd,hr4,_,hgL,ht4⟩;have hgO:w.heap.size+1+1+1<=gO:=by obtain⟨cur,_,h,_⟩:=HR2.out.rO.blockC;exact h
  have B4:Hid (BxF w A n c F m d W E (.slice (some ⟨gO,0,none⟩) n' cO) (.slice FL m' cL) w4):=Lib.hid (B3.out.later (ht4.below (by have:=B3.out.lt;omega) (by omega) (by omega)))
  have HR4:=Lib.hid hr4;have HD4:=Lib.hid hd;clear hr4 ht4 hgO B3 B2 HR2 HR3 q0 q1 z0 z1 u0 u1 l2 CF hd;have q0:=cell_of_row _ _ 0 _ _ _ B4.out.r1;have q1:=cell_of_row _ _ 1 _ _ _ B4.out.r1;have r0:=cell_of_row _ _ 0 _ _ _ B4.out.r2;have r1:=cell_of_row _ _ 1 _ _ _ B4.out.r2;have z0:=frozen_of_row w4 (w.heap.size+1+1) 0 _ _ B4.out.r2;have z1:=frozen_of_row w4 (w.heap.size+1+1) 1 _ _ B4.out.r2;simp at q0 q1 r0 r1;have HF2:=Lib.hid (row_setC B4.out.r2 (.slice (some ⟨gO,0,none⟩) n' cO) (.slice FL m' cL));have hb5:Below (w.heap.size+1+1) w4 ((w4.setCell ⟨w.heap.size+1+1,0,none⟩ (.slice (some ⟨gO,0,none⟩) n' cO)).setCell ⟨w.heap.size+1+1,1,none⟩ (.slice FL m' cL)):=below_setC (Nat.le_refl _) _ _;have HB5:=Lib.hid (B4.out.bel.trans (hb5.mono (by omega)))
  have HR5:=Lib.hid (HR4.out.other B4.out.r2 (other_setC w4 (w.heap.size+1+1) (.slice (some ⟨gO,0,none⟩) n' cO) (.slice FL m' cL)));have HD5:=Lib.hid ((other_ownC HD4.out B4.out.r2 (by decide) (other_setC w4 (w.heap.size+1+1) (.slice (some ⟨gO,0,none⟩) n' cO) (.slice FL m' cL))))
  have HK5:=Lib.hid hkd;clear hb5 hkd;go_wp2;have hdl:(nums (doneT O L)).length=k5:=HK5.out;refine bodyPost_ret (v:=.tuple #[.agg #[.slice (some ⟨gO,0,none⟩) n' cO,.slice FL m' cL],.slice A5 k5 c5,.int .i64 0]) ?_ rfl ⟨gO,cO,FL,cL,A5,c5,by rw[hdl],HR5.out.down (by omega),OwnI.down (show OwnI _ (_+1) (.slice A5 (nums (doneT O L)).length c5) (nums (doneT O L))from by rw[hdl];exact HD5.out) (Nat.le_trans HSZ.out (Nat.le_succ _)),HB5.out⟩
  rw[results_cell_two rfl];simp[asAddr,run_loadVar_row _ (w.heap.size+1+1) _ _ _ _ _ HF2.out Tryz.underlying37 rfl (by kernel_rfl),Result.andThen]
end
theorem dq_cell_info:(Tryz.prog.info? 81).map (fun i=>(i.zero,i.size,i.bytes))=some (some (.agg #[.slice none 0 0,.int .i64 0,.int .i64 0]),3,40):=by kernel_rfl
theorem tk_cell_info:(Tryz.prog.info? 65).map (fun i=>(i.zero,i.size,i.bytes))=some (some (.agg #[.bool false,.int .i64 0,.int .i64 0,.int .i64 0,.int .i64 0,.int .i64 0]),6,48):=by kernel_rfl
theorem new_row(W:World)(tl te ty:TypeId)(z:Value)(s b:Nat)(ht:Tryz.prog.underlying tl=some (.slice te))(hinf:(Tryz.prog.info? te).map (fun i=>(i.zero,i.size,i.bytes))=some (some z,s,b))(hz:z.cells.size=s)(hs0:0<s)(hb48:b<=48)
  {base g n c:Nat} {xs:List Value} (h:W.ownsRow base te s (.slice (some ⟨g,0,none⟩) n c) n xs) (hn:1<=n) (hn8:n<=1000) (h1: ∀u∈xs,u.oneCell'=true):
  ∃g' c' w',(Builtin.append_ #[tl,tl] ty #[.slice (some ⟨W.heap.size,0,none⟩) 0 0,.slice (some ⟨g,0,none⟩) n c]).run Tryz.prog (W.alloc (.cells #[] te))= .ok (.slice (some ⟨g',0,none⟩) n c') w'/\w'.ownsRow W.heap.size te s (.slice (some ⟨g',0,none⟩) n c') n xs/\Below W.heap.size W w':=by
 obtain⟨i0,hi,hz0,hz1,hz2⟩:=info_partsS hinf;obtain⟨v',w',hr,ho,hb⟩:=fresh_append (P:=Tryz.prog) (W.alloc (.cells #[] te)) tl ty te i0 z s b ht hi hz0 hz1 hz2 hz hs0 W.heap.size W.heap.size (heap_alloc_new W _) (Nat.le_refl _) (by simp) (some ⟨g,0,none⟩) n c xs h.1 (fun q=>by cases q)
  (fun ad e => by
   injection e with e;subst e;intro j u hu;have:=rowN_cell (own_below h (below_alloc (.cells #[] te))) hu;rw[addr_add,Nat.zero_add];exact this) h1 (by unfold maxLen;omega) (by have:n * b<=1000 * 48:=Nat.mul_le_mul hn8 hb48;omega)
 rcases ho.2 with⟨rfl,h0⟩|⟨g',cap,cur,rfl,rest⟩
 ·omega
 ·exact⟨g',cap,w',hr,ho,(below_alloc _).trans (hb.mono (by simp))⟩
section
variable {base g n c: Nat} {xs: List Value}
theorem clone_dq(w:World)(h:w.ownsRow base 81 3 (.slice (some ⟨g,0,none⟩) n c) n xs)(hn:1<=n)(hn8:n<=1000)(h1: ∀u∈xs,u.oneCell'=true):
  Calls Tryz.prog 82 #[.slice (some ⟨g,0,none⟩) n c] w fun e w'=> ∃g' c',e= .returned (.slice (some ⟨g',0,none⟩) n c')/\w'.ownsRow w.heap.size 81 3 (.slice (some ⟨g',0,none⟩) n c') n xs/\Below w.heap.size w w':=by
 obtain⟨g',c',w1,hr,hO,hB⟩:=new_row w 38 81 38 _ 3 40 Tryz.underlying38 dq_cell_info rfl (by decide) (by decide) h hn hn8 h1
 have HO:=Lib.hid hO;have HB:=Lib.hid hB;clear h h1 hO hB;have hnil:=fun W a l c=>eql_nil W 38 81 a l c Tryz.underlying38
 go_enter Tryz.func82,Tryz.ntmps82
 go_wp2_with(at_builtin;refine wpList_append_plain rfl _ _ 38 _ _ rfl rfl rfl hr ?_)
 go_ret;exact⟨g',c',rfl,HO.out,HB.out⟩
theorem clone_tk(w:World)(h:w.ownsRow base 65 6 (.slice (some ⟨g,0,none⟩) n c) n xs)(hn:1<=n)(hn8:n<=1000)(h1: ∀u∈xs,u.oneCell'=true):
  Calls Tryz.prog 81 #[.slice (some ⟨g,0,none⟩) n c] w fun e w'=> ∃g' c',e= .returned (.slice (some ⟨g',0,none⟩) n c')/\w'.ownsRow w.heap.size 65 6 (.slice (some ⟨g',0,none⟩) n c') n xs/\Below w.heap.size w w':=by
 obtain⟨g',c',w1,hr,hO,hB⟩:=new_row w 39 65 39 _ 6 48 Tryz.underlying39 tk_cell_info rfl (by decide) (by decide) h hn hn8 h1
 have HO:=Lib.hid hO;have HB:=Lib.hid hB;clear h h1 hO hB;have hnil:=fun W a l c=>eql_nil W 39 65 a l c Tryz.underlying39
 go_enter Tryz.func81,Tryz.ntmps81
 go_wp2_with(at_builtin;refine wpList_append_plain rfl _ _ 39 _ _ rfl rfl rfl hr ?_)
 go_ret;exact⟨g',c',rfl,HO.out,HB.out⟩
end
structure GngR(w:World)(base m:Nat)(g:Gng)(L:List Int)(a:GAd):Prop where
 ol:g.O.length=m
 on:OwnI w base (a.vO m) g.O
 left:OwnI w base a.vL L
 dqs:w.ownsRow base 81 3 (a.vD m) m (flatN (dqC g a) m)
 tks:w.ownsRow base 65 6 (a.vT m) m (flatN (fun c=>cT (g.tk c)) m)
 frm:OwnI w base (a.vF m) (frL m g)
 ring: ∀j,j<m->OwnI w base (a.Rv j) (g.R j)
section
variable {w w': World} {base m: Nat} {g: Gng} {L: List Int} {a: GAd}
theorem IsGng.r(h:IsGng w base m g L a):GngR w base m g L a:=⟨h.ol,h.on,h.left,h.dqs,h.tks,h.frm,h.ring⟩
theorem GngR.below(h:GngR w base m g L a)(hb:Below w.heap.size w w'):GngR w' base m g L a:=
 ⟨h.ol,h.on.below hb,h.left.below hb,own_below h.dqs hb,own_below h.tks hb,h.frm.below hb,fun j hj=>(h.ring j hj).below hb⟩
theorem GngR.down{base':Nat}(h:GngR w base m g L a)(hb:base'<=base):GngR w base' m g L a:=
 ⟨h.ol,h.on.down hb,h.left.down hb,own_less h.dqs hb,own_less h.tks hb,h.frm.down hb,fun j hj=>(h.ring j hj).down hb⟩
theorem GngR.dq(h:GngR w base m g L a){j i:Nat}(hj:j<m){v:Value}(hi:(dqC g a j)[i]? =some v):w.cell? ⟨a.gD,3 * j+i,none⟩=some v:=
 rowN_cell h.dqs (by rw[flatN_at (dqC_len g a) (List.getElem?_eq_some_iff.1 hi).1 hj];exact hi)
theorem GngR.tk(h:GngR w base m g L a){c i:Nat}(hc:c<m){v:Value}(hi:(cT (g.tk c))[i]? =some v):w.cell? ⟨a.gT,6 * c+i,none⟩=some v:=
 rowN_cell h.tks (by rw[flatN_at (tkC_len g) (List.getElem?_eq_some_iff.1 hi).1 hc];exact hi)
theorem GngR.fr(h:GngR w base m g L a){c:Nat}(hc:c<m):w.cell? ⟨a.gF,c,none⟩=some (.int .i64 (g.fr c:Int)):=by
 have h1:=h.frm;unfold OwnI GAd.vF at h1;rw[frL_len]at h1;exact rowN_cell h1 (by rw[List.getElem?_map,frL_at hc];rfl)
theorem GngR.onF(h:GngR w base m g L a):w.ownsRow base 3 1 (a.vO m) m (g.O.map (.int .i64))/\w.ownsRow base 3 1 (a.vF m) m ((frL m g).map (.int .i64)):=by
 have h1:=h.on;have h2:=h.frm;unfold OwnI at h1 h2;rw[h.ol]at h1;rw[frL_len]at h2;exact⟨h1,h2⟩
theorem GngR.onc(h:GngR w base m g L a){c:Nat}(hc:c<m):w.cell? ⟨a.gO,c,none⟩=some (.int .i64 (g.O.getD c 0)):=by
 refine rowN_cell h.onF.1 ?_
 have hc':c<g.O.length:=by rw[h.ol];exact hc
 rw[List.getElem?_map,List.getElem?_eq_getElem hc',List.getD_eq_getElem?_getD,List.getElem?_eq_getElem hc'];rfl
theorem GngR.frozen(h:GngR w base m g L a)(k:Nat):w.frozen? ⟨a.gD,k,none⟩=false/\w.frozen? ⟨a.gT,k,none⟩=false/\w.frozen? ⟨a.gF,k,none⟩=false/\w.frozen? ⟨a.gO,k,none⟩=false:=
 ⟨rowN_frozen h.dqs k,rowN_frozen h.tks k,rowN_frozen h.onF.2 k,rowN_frozen h.onF.1 k⟩
end
end Go.Proofs.YtngdbbligebcbabGreatDoor
