import Derived.Test.YtlfekmbalgkmeaaGreatDoorZM36
import Derived.Test.YtlfekmbalgkmeaaGreatDoorZM32
import Derived.Test.YtlfekmbalgkmeaaGreatDoorZM34
import Derived.Test.YtlfekmbalgkmeaaGreatDoorZM11
set_option linter.unusedSimpArgs false
set_option linter.unnecessarySimpa false
set_option linter.unusedVariables false
set_option maxRecDepth 100000
set_option maxHeartbeats 32000000
namespace Go.Proofs.YtlfekmbalgkmeaaGreatDoor
open Go Go.RowKit
theorem eqLol_any{A:Option Addr}{n c:Nat}{A2:Option Addr}{m d:Nat}{es us:List (List Int)}(w:World)(hn:es.length=n)(hm:us.length=m)(hl:n<=100)(hl2:m<=100)(he: ∀r∈es,r.length<=100)(hu: ∀r∈us,r.length<=100)(hS:Lol w w.heap.size A es)(hU:Lol w w.heap.size A2 us):
  Calls Tryz.prog 50 #[.slice A n c,.slice A2 m d,.func (.func 51) #[] #[]] w fun e w'=>e= .returned (.bool (decide (es=us)))/\Below w.heap.size w w':=by
 have HS:=Lib.hid (fun W (b:Below w.heap.size w W)=>hS.via b)
 have HU:=Lib.hid (fun W (b:Below w.heap.size w W)=>hU.via b)
 have HN:=Lib.hid (show es.length=n/\us.length=m from⟨hn,hm⟩)
 have HE:=Lib.hid he;have HUu:=Lib.hid hu;obtain⟨r,hr⟩: ∃r,r=decide (es=us):=⟨_,rfl⟩;rw[<-hr];have HR:=Lib.hid hr;have eg: ∀args w,(callFunc 51 args).run Tryz.prog w= .ok (.enter 51 args) w:=eg_of Tryz.func51 (by kernel_rfl) rfl
 clear hn hm hS hU hr he hu
 by_cases hnm:n=m
 ·subst hnm
  go_enter Tryz.func50,Tryz.ntmps50;go_wp2;go_loopw [17] (fun i wr=> ∃k:Nat,k<=n/\i= .int .i64 k/\Hid (es.take k=us.take k)/\Hid (Below w.heap.size w wr)) (fun i _=>n - (intOf i).toNat)
  case atStart=>exact⟨0,Nat.zero_le _,rfl,Lib.hid rfl,Lib.hid (Below.refl _ _)⟩
  case round=>
   obtain⟨k,hk,rfl,HT,HB⟩:=hrel
   by_cases hlt:k<n
   ·obtain ⟨b,off,x,A1,n1,c1,rfl,hb,hek,hn1,c0,hI1,_⟩:=(HS.out wr HB.out).at_ (k:=k) (by rw [HN.out.1]; exact hlt)
    obtain⟨b2,off2,y,B1,n2,c2,rfl,hb2,huk,hn2,d0,hI2,_⟩:=(HU.out wr HB.out).at_ (k:=k) (by rw[HN.out.2];exact hlt)
    have HEk:=Lib.hid hek;have HUk:=Lib.hid huk;have hxl:=HE.out x (List.mem_of_getElem? hek)
    have hyl:=HUu.out y (List.mem_of_getElem? huk)
    have KI:=eq_ints wr.heap.size A1 B1 c1 c2 x y wr (by omega) (by omega) hI1 hI2
    rw[hn1,hn2]at KI;have KI:=Lib.hid KI;clear hek huk hI1 hI2 hn1 hn2 hxl hyl
    by_cases hxy:x=y
    ·have HXY:=Lib.hid hxy
     rw[decide_eq_true hxy]at KI;clear hxy
     go_wp2_with(go_at_fn 51;refine KI.out.mono ?_;rintro e w' ⟨rfl,N,rfl⟩)
     go_roundw
     case rel=>exact⟨k+1,by omega,by go_num,Lib.hid (by rw[take_one HEk.out,take_one HUk.out,HT.out,HXY.out]),Lib.hid (below_drewN HB.out _)⟩
     case measure=>simp[intOf];omega
    ·have HF0:=Lib.hid (show r = false by
      rw[HR.out];refine decide_eq_false fun e=>hxy ?_
      have h1:=HEk.out;rw[e,HUk.out]at h1;exact(Option.some.inj h1).symm)
     rw[decide_eq_false hxy]at KI;clear hxy
     go_wp2_with(go_at_fn 51;refine KI.out.mono ?_;rintro e w' ⟨rfl,N,rfl⟩)
     refine bodyPost_ret (v:=.bool false) ?_ rfl ⟨by rw[HF0.out],below_drewN HB.out _⟩
     simp[results,Tryz.results50,go_sem]
   ·obtain rfl: k = n:=by omega
    have HF0:=Lib.hid (show r=true by
     rw[HR.out];refine decide_eq_true ?_
     have:=HT.out;rw[List.take_of_length_le (by rw[HN.out.1];exact Nat.le_refl _),List.take_of_length_le (by rw[HN.out.2];exact Nat.le_refl _)]at this
     exact this)
    go_wp2;refine bodyPost_ret (v:=.bool true) ?_ rfl ⟨by rw[HF0.out],HB.out⟩
    simp[results,Tryz.results50,go_sem]
 ·have he: ((n: Int) == (m: Int)) = false:=by simp; omega
  have he2:(n==m)=false:=by simpa using hnm
  have HF0:=Lib.hid (show r=false by
   rw[HR.out];refine decide_eq_false fun e=>hnm ?_
   rw[<-HN.out.1,<-HN.out.2,e])
  go_enter Tryz.func50,Tryz.ntmps50;go_wp2;refine bodyPost_ret (v:=.bool false) ?_ rfl ⟨by rw[HF0.out],Below.refl _ _⟩
  simp[results,Tryz.results50,go_sem]
def PhiPs(g1 g2:Nat)(G1:Option Addr)(m1 d1:Nat)(G2:Option Addr)(m2 d2:Nat)(b off b2 off2 k:Nat)(A1:Option Addr)(n1 c1:Nat)(A2:Option Addr)(n2 c2:Nat)(r:Bool):Nat->Value->World->Prop
 |0,v,w=>v= .pointer (some ⟨g1,1,none⟩)
 |1,v,w=>v= .slice G1 m1 d1
 |2,v,w=>v= .int .i64 k
 |3,v,w=>v= .pointer (some ⟨b,off+k,none⟩)
 |4,v,w=>v= .slice A1 n1 c1
 |5,v,w=>v= .pointer (some ⟨g2,1,none⟩)
 |6,v,w=>v= .slice G2 m2 d2
 |7,v,w=>v= .int .i64 k
 |8,v,w=>v= .pointer (some ⟨b2,off2+k,none⟩)
 |9,v,w=>v= .slice A2 n2 c2
 |10,v,w=>v= .bool r
 |11,v,w=>v= .bool (!r)
 |_,_,_=>True
theorem phiPs_keep{g1 g2:Nat}{G1:Option Addr}{m1 d1:Nat}{G2:Option Addr}{m2 d2:Nat}{b off b2 off2 k:Nat}{A1:Option Addr}{n1 c1:Nat}{A2:Option Addr}{n2 c2:Nat}{r:Bool}: ∀kq v w w',PhiPs g1 g2 G1 m1 d1 G2 m2 d2 b off b2 off2 k A1 n1 c1 A2 n2 c2 r kq v w->Below w.heap.size w w'->PhiPs g1 g2 G1 m1 d1 G2 m2 d2 b off b2 off2 k A1 n1 c1 A2 n2 c2 r kq v w':=by
 intro kq v w w' h _
 match kq,h with
 |0,h=>exact h
 |1,h=>exact h
 |2,h=>exact h
 |3,h=>exact h
 |4,h=>exact h
 |5,h=>exact h
 |6,h=>exact h
 |7,h=>exact h
 |8,h=>exact h
 |9,h=>exact h
 |10,h=>exact h
 |11,h=>exact h
 |kq+12,h=>exact trivial
section
variable {A: Option Addr} {n c: Nat} {G: Option Addr} {m d: Nat} {S: List Shp} {C: List (List Int)} {A2: Option Addr} {n2 c2: Nat} {G2: Option Addr} {m2 d2: Nat} {S2: List Shp} {C2: List (List Int)}
theorem asame_any(wf:World)(h:IsPl wf A n c G m d S C)(h2:IsPl wf A2 n2 c2 G2 m2 d2 S2 C2)(hf:FewP S C)(hf2:FewP S2 C2):
  Calls Tryz.prog 24 #[.agg #[.slice A n c,.slice G m d],.agg #[.slice A2 n2 c2,.slice G2 m2 d2]] wf fun e w'=>e= .returned (.bool (decide (S=S2/\C=C2)))/\Below wf.heap.size wf w':=by
 obtain⟨w0,hw0⟩: ∃w0,w0=(wf.alloc (.cells #[.slice A n c,.slice G m d] 28)).alloc (.cells #[.slice A2 n2 c2,.slice G2 m2 d2] 28):=⟨_,rfl⟩;have hB:Below wf.heap.size wf w0:=by rw[hw0];exact(below_alloc _).trans ((below_alloc _).mono (by simp))
 have hr1:RowV wf.heap.size 28 [.slice A n c,.slice G m d] w0:=by rw[hw0];exact(RowV.new wf _ _).alloc _
 have hr2:RowV (wf.heap.size+1) 28 [.slice A2 n2 c2,.slice G2 m2 d2] w0:=by
  have:=RowV.new (wf.alloc (.cells #[.slice A n c,.slice G m d] 28)) 28 [.slice A2 n2 c2,.slice G2 m2 d2];rw[hw0]
  simpa using this
 have HP:=Lib.hid (h.via hB);have HP2:=Lib.hid (h2.via hB);have HB:=Lib.hid hB;have HF:=Lib.hid hf;have HF2:=Lib.hid hf2;have HR1:=Lib.hid hr1;have HR2:=Lib.hid hr2;have KS:=Lib.hid (eqShps_any (c:=c) (d:=c2) w0 HP.out.l1 HP2.out.l1 (by have:=hf.f1;rw[h.l1]at this;omega) (by have:=hf2.f1;rw[h2.l1]at this;omega) HP.out.shp HP2.out.shp)
 have KL:=Lib.hid (fun W (b:Below w0.heap.size w0 W)=>eqLol_any (c:=d) (d:=d2) W HP.out.l2 HP2.out.l2 (by have:=hf.f2;rw[h.l2]at this;omega) (by have:=hf2.f2;rw[h2.l2]at this;omega) (fun r hr=>by have:=hf.f3 r hr;omega) (fun r hr=>by have:=hf2.f3 r hr;omega) (HP.out.lol.via b) (HP2.out.lol.via b))
 have q0:=hr1.cell (j:=0) rfl;have q1:=hr2.cell (j:=0) rfl;rw[hw0]at q0 q1;have HW0:=Lib.hid hw0;clear h h2 hf hf2 hB hr1 hr2 hw0
 by_cases hS:S=S2
 ·have HS:=Lib.hid hS
  rw[decide_eq_true hS]at KS;clear hS;go_enter Tryz.func24,Tryz.ntmps24;go_wp2_with fail;rw[<-HW0.out];refine KS.out.mono ?_
  rintro e w1 ⟨rfl,b1⟩;have HB1:=Lib.hid b1;have e0:=(HR1.out.below b1 HR1.out.lt).cell (j:=1) rfl;have e1:=(HR2.out.below b1 HR2.out.lt).cell (j:=1) rfl;clear b1 q0 q1 KS;go_wp2_with fail;refine(KL.out w1 HB1.out).mono ?_
  rintro e w2 ⟨rfl,b2⟩;have HB2:=Lib.hid (HB.out.trans ((HB1.out.trans (b2.mono HB1.out.size)).mono HB.out.size));clear b2;go_wp2;refine bodyPost_ret (v:=.bool (decide (C=C2))) ?_ rfl ⟨by congr 2;simp[HS.out],HB2.out⟩
  simp[results,Tryz.results24,go_sem]
 ·have HS:=Lib.hid hS
  rw[decide_eq_false hS]at KS;clear hS;go_enter Tryz.func24,Tryz.ntmps24;go_wp2_with fail;rw[<-HW0.out];refine KS.out.mono ?_
  rintro e w1 ⟨rfl,b1⟩;have HB2:=Lib.hid (HB.out.trans (b1.mono HB.out.size));clear b1;go_wp2;refine bodyPost_ret (v:=.bool false) ?_ rfl ⟨by rw[decide_eq_false (fun q=>HS.out q.1)],HB2.out⟩
  simp[results,Tryz.results24,go_sem]
theorem rsame17_any(wf:World)(h:IsPl wf A n c G m d S C)(h2:IsPl wf A2 n2 c2 G2 m2 d2 S2 C2)(hf:FewP S C)(hf2:FewP S2 C2):
    Calls Tryz.prog 14 #[.agg #[.slice A n c, .slice G m d], .agg #[.slice A2 n2 c2, .slice G2 m2 d2]] wf fun e w'=>e= .returned (.bool (decide (S=S2/\C=C2)))/\Below wf.heap.size wf w':=by
  obtain⟨w0,hw0⟩: ∃w0,w0=(wf.alloc (.cells #[.slice A n c, .slice G m d] 28)).alloc (.cells #[.slice A2 n2 c2, .slice G2 m2 d2] 28):=⟨_,rfl⟩;obtain⟨g1,hg1⟩: ∃g,g=wf.heap.size:=⟨_,rfl⟩;obtain⟨g2,hg2⟩: ∃g,g=wf.heap.size+1:=⟨_,rfl⟩;have hB:Below wf.heap.size wf w0:=by rw[hw0];exact(below_alloc _).trans ((below_alloc _).mono (by simp))
  have hr1:RowV g1 28 [.slice A n c, .slice G m d] w0:=by rw[hw0,hg1];exact(RowV.new wf _ _).alloc _
  have hr2:RowV g2 28 [.slice A2 n2 c2, .slice G2 m2 d2] w0:=by
    have:=RowV.new (wf.alloc (.cells #[.slice A n c, .slice G m d] 28)) 28 [.slice A2 n2 c2, .slice G2 m2 d2];rw[hw0,hg2]
    simpa using this
  have HP:=Lib.hid (h.via hB);have HP2:=Lib.hid (h2.via hB);have HB:=Lib.hid hB;have HR1:=Lib.hid hr1;have HR2:=Lib.hid hr2;have KS:=Lib.hid (rsame16_any (c:=c) (d:=c2) w0 HP.out.l1 HP2.out.l1 (by have:=hf.f1;rw[h.l1]at this;omega) (by have:=hf2.f1;rw[h2.l1]at this;omega) HP.out.shp HP2.out.shp)
  have HE:=Lib.hid (show∀r∈C,r.length<=100 from fun r hr=>by have:=hf.f3 r hr;omega)
  have HU:=Lib.hid (show∀r∈C2,r.length<=100 from fun r hr=>by have:=hf2.f3 r hr;omega)
  have HN:=Lib.hid (show(C.length=m/\m<=20)/\C2.length=m2/\m2<=20 from⟨⟨h.l2,by have:=hf.f2;rw[h.l2]at this;exact this⟩,h2.l2,by have:=hf2.f2;rw[h2.l2]at this;exact this⟩)
  have q0:=hr1.cell (j:=0) rfl;have q1:=hr2.cell (j:=0) rfl;rw[hw0,hg1]at q0;rw[hw0,hg2]at q1;have HW0:=Lib.hid hw0;have HG1:=Lib.hid hg1;have HG2:=Lib.hid hg2;obtain⟨r,hr⟩: ∃r,r=decide (S=S2/\C=C2):=⟨_,rfl⟩;rw[<-hr];have HR:=Lib.hid hr;clear h h2 hf hf2 hB hr1 hr2 hw0 hg1 hg2 hr
  by_cases hS:S=S2
  · have HS:=Lib.hid hS;rw[decide_eq_true hS]at KS;clear hS
    by_cases hmm:m=m2
    · subst hmm;have hm20:m<=20:=HN.out.1.2;go_enter Tryz.func14,Tryz.ntmps14;go_wp2_with fail;rw[<-HW0.out,<-HG2.out,<-HG1.out];refine KS.out.mono ?_
      rintro e w1 ⟨rfl,b1⟩;have HB1:=Lib.hid b1;have HS1:=Lib.hid (HR1.out.below b1 HR1.out.lt);have HS2:=Lib.hid (HR2.out.below b1 HR2.out.lt);have e0:=HS1.out.cell (j:=1) rfl;have e1:=HS2.out.cell (j:=1) rfl;clear b1 q0 q1 KS HR1 HR2;go_wp2;clear e0 e1;go_loopw [5] (fun i wr=> ∃k:Nat,k<=m/\i= .int .i64 k/\Hid (C.take k=C2.take k)/\Hid (Below w0.heap.size w0 wr)/\Hid (RowV g1 28 [.slice A n c, .slice G m d] wr)/\Hid (RowV g2 28 [.slice A2 n2 c2, .slice G2 m d2] wr)) (fun i _=>m - (intOf i).toNat)
      case atStart=>exact⟨0,Nat.zero_le _,rfl,Lib.hid rfl,HB1,HS1,HS2⟩
      case round=>
        obtain⟨k,hk,rfl,HT,HBe,HR1,HR2⟩:=hrel;have z1:=HR1.out.cell (j:=1) rfl
        by_cases hlt:k<m
        · obtain⟨b,off,x,A1,n1,c1,hAe,hb,hek,hn1,c0,hI1,_⟩:=(HP.out.lol.via HBe.out).at_ (k:=k) (by rw[HN.out.1.1];exact hlt)
          obtain⟨b2,off2,y,B1,nn2,cc2,hGe,hb2,huk,hn2,d0,hI2,_⟩:=(HP2.out.lol.via HBe.out).at_ (k:=k) (by rw[HN.out.2.1];exact hlt)
          subst hAe hGe;have HEk:=Lib.hid hek;have HUk:=Lib.hid huk;have HC1:=Lib.hid c0;have HC2:=Lib.hid d0;have HB1:=Lib.hid hb;have HB2:=Lib.hid hb2;have hxl:=HE.out x (List.mem_of_getElem? hek)
          have hyl:=HU.out y (List.mem_of_getElem? huk)
          obtain⟨rr,hrr⟩: ∃rr,rr=decide (x=y):=⟨_,rfl⟩;have KI:=Lib.hid (fun W (hbw:Below wr.heap.size wr W)=>(show Calls Tryz.prog 21 #[.slice A1 n1 c1, .slice B1 nn2 cc2] W fun e w'=>e= .returned (.bool rr)/\Below W.heap.size W w' from by
            have:=ints_any wr.heap.size A1 B1 c1 cc2 x y W (by omega) (by omega) (hI1.below hbw) (hI2.below hbw)
            rw[hn1,hn2,<-hrr]at this;refine this.mono ?_
            rintro e w' ⟨rfl,N,rfl⟩;exact⟨rfl,below_drewN (Below.refl _ _) _⟩))
          have HRR:=Lib.hid hrr;clear hek huk hI1 hI2 hn1 hn2 hxl hyl c0 d0 hb hb2 hrr;go_wp2_with fail;refine wp_region_b [28,29,30,31,32,33,34,35,36,37,38,39] (by kernel_rfl) (by kernel_rfl) (by kernel_rfl) (by intro d hd;simp at hd⊢;omega) (by simp) (PhiPs g1 g2 (some ⟨b,off,none⟩) m d (some ⟨b2,off2,none⟩) m d2 b off b2 off2 k A1 n1 c1 B1 nn2 cc2 rr) phiPs_keep ?hstep ?hend
          case hstep=>
            intro kq o ho a w hI hA hd K hK;obtain⟨ρ,hρ⟩: ∃ρ,a.eval=ρ:=⟨_,rfl⟩;rw[hρ]at hA hd
            match kq,ho,hK with
            | 0, ho, hK =>
              have hoo:=Option.some.inj ho;subst hoo;have g2:=hA.tmp 2 (by decide)
              exact ux_val hK hρ (by decide) (.pointer (some ⟨g1,1,none⟩)) w (by simp[execOp,g2,hA.const,go_sem]) rfl (Below.refl _ _)
            | 1, ho, hK =>
              have hoo:=Option.some.inj ho;subst hoo;have f0:ρ (.tmp 28)= .pointer (some ⟨g1,1,none⟩):=hd ⟨0, .data⟩ (by simp) (by rfl)
              have e1:=(HR1.out.below hI HR1.out.lt).cell (j:=1) rfl;exact ux_val hK hρ (by decide) (.slice (some ⟨b,off,none⟩) m d) w (by simp[execOp,f0,e1,hA.const,go_sem]) rfl (Below.refl _ _)
            | 2, ho, hK =>
              have hoo:=Option.some.inj ho;subst hoo;have g5:=hA.tmp 5 (by decide)
              exact ux_val hK hρ (by decide) (.int .i64 k) w (by simp[execOp,g5,hA.const,go_sem]) rfl (Below.refl _ _)
            | 3, ho, hK =>
              have hoo:=Option.some.inj ho;subst hoo;have f1:ρ (.tmp 29)= .slice (some ⟨b,off,none⟩) m d:=hd ⟨1, .data⟩ (by simp) (by rfl)
              have f2:ρ (.tmp 30)= .int .i64 k:=hd ⟨2, .data⟩ (by simp) (by rfl)
              exact ux_val hK hρ (by decide) (.pointer (some ⟨b,off+k,none⟩)) w (by simp[execOp,f1,f2,hlt,hA.const,go_sem]) rfl (Below.refl _ _)
            | 4, ho, hK =>
              have hoo:=Option.some.inj ho;subst hoo;have f3:ρ (.tmp 31)= .pointer (some ⟨b,off+k,none⟩):=hd ⟨3, .data⟩ (by simp) (by rfl)
              have e1:=(hI.cell (p:=⟨b,off+k,none⟩) HB1.out).trans HC1.out;exact ux_val hK hρ (by decide) (.slice A1 n1 c1) w (by simp[execOp,f3,e1,hA.const,go_sem]) rfl (Below.refl _ _)
            | 5, ho, hK =>
              have hoo:=Option.some.inj ho;subst hoo;have g3:=hA.tmp 3 (by decide)
              exact ux_val hK hρ (by decide) (.pointer (some ⟨g2,1,none⟩)) w (by simp[execOp,g3,hA.const,go_sem]) rfl (Below.refl _ _)
            | 6, ho, hK =>
              have hoo:=Option.some.inj ho;subst hoo;have f5:ρ (.tmp 33)= .pointer (some ⟨g2,1,none⟩):=hd ⟨5, .data⟩ (by simp) (by rfl)
              have e1:=(HR2.out.below hI HR2.out.lt).cell (j:=1) rfl;exact ux_val hK hρ (by decide) (.slice (some ⟨b2,off2,none⟩) m d2) w (by simp[execOp,f5,e1,hA.const,go_sem]) rfl (Below.refl _ _)
            | 7, ho, hK =>
              have hoo:=Option.some.inj ho;subst hoo;have g5:=hA.tmp 5 (by decide)
              exact ux_val hK hρ (by decide) (.int .i64 k) w (by simp[execOp,g5,hA.const,go_sem]) rfl (Below.refl _ _)
            | 8, ho, hK =>
              have hoo:=Option.some.inj ho;subst hoo;have f6:ρ (.tmp 34)= .slice (some ⟨b2,off2,none⟩) m d2:=hd ⟨6, .data⟩ (by simp) (by rfl)
              have f7:ρ (.tmp 35)= .int .i64 k:=hd ⟨7, .data⟩ (by simp) (by rfl)
              exact ux_val hK hρ (by decide) (.pointer (some ⟨b2,off2+k,none⟩)) w (by simp[execOp,f6,f7,hlt,hA.const,go_sem]) rfl (Below.refl _ _)
            | 9, ho, hK =>
              have hoo:=Option.some.inj ho;subst hoo;have f8:ρ (.tmp 36)= .pointer (some ⟨b2,off2+k,none⟩):=hd ⟨8, .data⟩ (by simp) (by rfl)
              have e1:=(hI.cell (p:=⟨b2,off2+k,none⟩) HB2.out).trans HC2.out;exact ux_val hK hρ (by decide) (.slice B1 nn2 cc2) w (by simp[execOp,f8,e1,hA.const,go_sem]) rfl (Below.refl _ _)
            | 10, ho, hK =>
              have hoo:=Option.some.inj ho;subst hoo;have f4:ρ (.tmp 32)= .slice A1 n1 c1:=hd ⟨4, .data⟩ (by simp) (by rfl)
              have f9:ρ (.tmp 37)= .slice B1 nn2 cc2:=hd ⟨9, .data⟩ (by simp) (by rfl)
              exact ux_call hK hρ (by decide) 21 _ _ #[.slice A1 n1 c1, .slice B1 nn2 cc2] rfl (by simp only[List.map_toArray,List.map_cons,List.map_nil,hA.const,f4,f9]) (eg_of Tryz.func21 (by kernel_rfl) rfl) ((KI.out w hI).mono fun e w' ⟨he,hb⟩=>⟨_,he,rfl,hb⟩)
            | 11, ho, hK =>
              have hoo:=Option.some.inj ho;subst hoo;have f10:ρ (.tmp 38)= .bool rr:=hd ⟨10, .data⟩ (by simp) (by rfl)
              exact ux_val hK hρ (by decide) (.bool (!rr)) w (by simp[execOp,f10,hA.const,go_sem]) rfl (Below.refl _ _)
            |kq+12,ho,_=>simp at ho
          case hend=>
            intro vals w2 hI hF;have e11:vals 39= .bool (!rr):=hF 11 (by decide)
            have HB3:=Lib.hid (HBe.out.trans (hI.mono HBe.out.size));have HR1':=Lib.hid (HR1.out.below hI HR1.out.lt);have HR2':=Lib.hid (HR2.out.below hI HR2.out.lt);clear hF hI;simp only[fillA,fillL,List.contains_cons,List.contains_nil,Nat.reduceBEq,Bool.or_false,Bool.false_or,Bool.or_true,Bool.true_or,cond_true,cond_false,Nat.zero_add,Nat.reduceAdd,e11];clear e11;cases rr with
            | true =>
              go_wp2;go_roundw
              case rel=>exact⟨k+1,by omega,by go_num,Lib.hid (by rw[take_one HEk.out,take_one HUk.out,HT.out,of_decide_eq_true HRR.out.symm]),HB3,HR1',HR2'⟩
              case measure=>simp[intOf];omega
            | false =>
              have HF0:=Lib.hid (show r=false by
                rw[HR.out];refine decide_eq_false fun e=>of_decide_eq_false HRR.out.symm ?_
                have h1:=HEk.out;rw[e.2,HUk.out]at h1;exact(Option.some.inj h1).symm)
              have HBF:=Lib.hid (HB.out.trans (HB3.out.mono HB.out.size));go_wp2;refine bodyPost_ret (v:= .bool false) ?_ rfl ⟨by rw[HF0.out],HBF.out⟩
              simp[results,Tryz.results14,go_sem]
        · obtain rfl:k=m:=by omega
          have HF0:=Lib.hid (show r=true by
            rw[HR.out];refine decide_eq_true ⟨HS.out,?_⟩
            have:=HT.out;rw[List.take_of_length_le (by rw[HN.out.1.1];exact Nat.le_refl _),List.take_of_length_le (by rw[HN.out.2.1];exact Nat.le_refl _)]at this
            exact this)
          have HBF:=Lib.hid (HB.out.trans (HBe.out.mono HB.out.size));go_wp2;refine bodyPost_ret (v:= .bool true) ?_ rfl ⟨by rw[HF0.out],HBF.out⟩
          simp[results,Tryz.results14,go_sem]
    · have he:((m:Int)==(m2:Int))=false:=by simp;omega
      have he2:(m==m2)=false:=by simpa using hmm
      have HF0:=Lib.hid (show r=false by
        rw[HR.out];refine decide_eq_false fun e=>hmm ?_
        rw[<-HN.out.1.1,<-HN.out.2.1,e.2])
      go_enter Tryz.func14,Tryz.ntmps14;go_wp2_with fail;rw[<-HW0.out,<-HG2.out,<-HG1.out];refine KS.out.mono ?_
      rintro e w1 ⟨rfl,b1⟩;have e0:=(HR1.out.below b1 HR1.out.lt).cell (j:=1) rfl;have e1:=(HR2.out.below b1 HR2.out.lt).cell (j:=1) rfl;have HB2:=Lib.hid (HB.out.trans (b1.mono HB.out.size));clear b1;go_wp2;refine bodyPost_ret (v:= .bool false) ?_ rfl ⟨by rw[HF0.out],HB2.out⟩
      simp[results,Tryz.results14,go_sem]
  · have HF0:=Lib.hid (show r=false by
      rw[HR.out];exact decide_eq_false fun e=>hS e.1)
    rw[decide_eq_false hS]at KS;clear hS;go_enter Tryz.func14,Tryz.ntmps14;go_wp2_with fail;rw[<-HW0.out,<-HG2.out,<-HG1.out];refine KS.out.mono ?_
    rintro e w1 ⟨rfl,b1⟩;have HB2:=Lib.hid (HB.out.trans (b1.mono HB.out.size));clear b1;go_wp2;refine bodyPost_ret (v:= .bool false) ?_ rfl ⟨by rw[HF0.out],HB2.out⟩
    simp[results,Tryz.results14,go_sem]
end
theorem lit17(w:World)(zs:List Int)(cs:Array Value)(h:cs=(zs.map (Value.int .i64)).toArray)(hl:zs.length<=1000):Ints (w.alloc (.cells cs 3)) (w.alloc (.cells cs 3)).heap.size (some ⟨w.heap.size,0,none⟩) zs:=by
 have h1:OwnI (w.alloc (.cells cs 3)) w.heap.size (.slice (some ⟨w.heap.size,0,none⟩) zs.length zs.length) zs:=
  ⟨by simp,.inr ⟨w.heap.size,zs.length,cs,rfl,Nat.le_refl _,heap_alloc_new w _,Nat.le_refl _,by unfold maxLen;omega,by rw[h];simp,by rw[h,List.toList_toArray,Nat.mul_one,List.take_of_length_le (by simp)]⟩⟩
 exact h1.ints
theorem ints17(A1 A2:Option Addr)(n c1 c2:Nat)(xs:List Int)(w:World)(h1:xs.length=n)(hx:n<=1000)(i1:Ints w w.heap.size A1 xs)(i2:Ints w w.heap.size A2 xs):
  Calls Tryz.prog 21 #[.slice A1 n c1,.slice A2 n c2] w fun e w'=>e= .returned (.bool true)/\Below w.heap.size w w':=by
 have h:=rints16 A1 A2 n c1 n c2 xs xs w h1 h1 hx hx i1 i2;rw[decide_eq_true rfl]at h;exact h
theorem lit17at(w:World)(g:Nat)(hg:g=w.heap.size)(zs:List Int)(cs:Array Value)(h:cs=(zs.map (Value.int .i64)).toArray)(hl:zs.length<=1000):Ints (w.alloc (.cells cs 3)) (w.alloc (.cells cs 3)).heap.size (some ⟨g,0,none⟩) zs:=hg▸lit17 w zs cs h hl
def w17a(w:World):World:=w.alloc (.cells #[.int .i64 0,.int .i64 0,.int .i64 4,.int .i64 0,.int .i64 0,.int .i64 4] 62)
def w17b(w:World):World:=(w17a w).alloc (.cells #[.int .i64 8,.int .i64 6,.slice (some ⟨w.heap.size,0,none⟩) 2 2,.slice none 0 0,.slice none 0 0,.slice none 0 0] 57)
def w17c(w:World):World:=(w17b w).alloc (.cells #[.int .i64 0,.int .i64 0,.int .i64 2] 62)
def w17d(w:World):World:=(w17c w).alloc (.cells #[.int .i64 8,.int .i64 8,.slice (some ⟨w.heap.size+1+1,0,none⟩) 1 1,.slice none 0 0,.slice none 0 0,.slice none 0 0] 57)
def w17e(w:World):World:=(w17d w).alloc (.cells #[.int .i64 8,.int .i64 8,.slice (some ⟨w.heap.size+1+1,0,none⟩) 1 1,.slice none 0 0,.slice none 0 0,.slice none 0 0,.int .i64 8,.int .i64 6,.slice (some ⟨w.heap.size,0,none⟩) 2 2,.slice none 0 0,.slice none 0 0,.slice none 0 0,.int .i64 8,.int .i64 8,.slice (some ⟨w.heap.size+1+1,0,none⟩) 1 1,.slice none 0 0,.slice none 0 0,.slice none 0 0] 57)
def hSh17(g:Nat):Sh:=⟨(some ⟨g,0,none⟩),2,2,none,0,0,none,0,0,none,0,0⟩
def lSh17(g:Nat):Sh:=⟨(some ⟨g+1+1,0,none⟩),1,1,none,0,0,none,0,0,none,0,0⟩
def exL17(g:Nat):List (Sh×Task):=[(lSh17 g,lT17),(hSh17 g,hT17),(lSh17 g,lT17)]
theorem size17(w:World):(w17a w).heap.size=w.heap.size+1/\(w17b w).heap.size=w.heap.size+1+1/\(w17c w).heap.size=w.heap.size+1+1+1/\(w17d w).heap.size=w.heap.size+1+1+1+1/\(w17e w).heap.size=w.heap.size+1+1+1+1+1:=by
 simp[w17a,w17b,w17c,w17d,w17e]
theorem below17(w:World):Below w.heap.size w (w17a w)/\Below (w17a w).heap.size (w17a w) (w17e w)/\Below w.heap.size w (w17b w)/\Below (w17c w).heap.size (w17c w) (w17e w)/\Below w.heap.size w (w17e w):=by
 obtain⟨s1,s2,s3,s4,s5⟩:=size17 w;have b1:Below w.heap.size w (w17a w):=below_alloc _;have b2:Below (w17a w).heap.size (w17a w) (w17b w):=below_alloc _;have b3:Below (w17b w).heap.size (w17b w) (w17c w):=below_alloc _;have b4:Below (w17c w).heap.size (w17c w) (w17d w):=below_alloc _;have b5:Below (w17d w).heap.size (w17d w) (w17e w):=below_alloc _;have b45:=b4.trans (b5.mono (by omega))
 have b345:=b3.trans (b45.mono (by omega))
 have b2345:=b2.trans (b345.mono (by omega))
 exact⟨b1,b2345,b1.trans (b2.mono (by omega)),b45,b1.trans (b2345.mono (by omega))⟩
theorem exL17_is(w:World)(hT:DTab w):IsTs (w17e w) (some ⟨w.heap.size+1+1+1+1,0,none⟩) (exL17 w.heap.size) where
 tks:=fun _=>by
  obtain⟨s1,s2,s3,s4,s5⟩:=size17 w;refine⟨_,_,rfl,by omega,fun k x hx=> ?_⟩
  unfold w17e;rw[World.cell?_alloc_at _ _ _ _ s4.symm,World.cell?_alloc_at _ _ _ _ s4.symm,World.cell?_alloc_at _ _ _ _ s4.symm,World.cell?_alloc_at _ _ _ _ s4.symm,World.cell?_alloc_at _ _ _ _ s4.symm,World.cell?_alloc_at _ _ _ _ s4.symm]
  match k,hx with
  |0,hx=>cases hx;exact⟨⟨rfl,rfl⟩,rfl,rfl,rfl,rfl⟩
  |1,hx=>cases hx;exact⟨⟨rfl,rfl⟩,rfl,rfl,rfl,rfl⟩
  |2,hx=>cases hx;exact⟨⟨rfl,rfl⟩,rfl,rfl,rfl,rfl⟩
 each:=by
  obtain⟨s1,s2,s3,s4,s5⟩:=size17 w;obtain⟨b1,b2,b3,b4,b5⟩:=below17 w;have t1:Trips (w17a w) (w17a w).heap.size (some ⟨w.heap.size,0,none⟩) hT17.parts:=by
   have h:=Trips.two7 w 62 0 0 4 0 0 4;exact h.more (by omega)
  have t2:Trips (w17c w) (w17c w).heap.size (some ⟨w.heap.size+1+1,0,none⟩) lT17.parts:=by
   have h:=Trips.one7 (w17b w) 62 0 0 2;rw[s2]at h;exact h.more (by omega)
  have d1:IsD (w17e w) (hSh17 w.heap.size) hT17:=⟨⟨rfl,rfl,rfl,rfl,(t1.below b2).more b2.size,(fun h=>absurd h (by decide)),(fun h=>absurd h (by decide)),(fun h=>absurd h (by decide)),(fun e=>by cases e),(fun _=>⟨rfl,rfl⟩),(fun _=>⟨rfl,rfl⟩),(fun _=>⟨rfl,rfl⟩)⟩,hT17Few,hT.via b5,Nat.le_refl _,Nat.le_refl _⟩
  have d2:IsD (w17e w) (lSh17 w.heap.size) lT17:=⟨⟨rfl,rfl,rfl,rfl,(t2.below b4).more b4.size,(fun h=>absurd h (by decide)),(fun h=>absurd h (by decide)),(fun h=>absurd h (by decide)),(fun e=>by cases e),(fun _=>⟨rfl,rfl⟩),(fun _=>⟨rfl,rfl⟩),(fun _=>⟨rfl,rfl⟩)⟩,lT17Few,hT.via b5,Nat.le_refl _,Nat.le_refl _⟩
  intro x hx;simp only[exL17,List.mem_cons,List.not_mem_nil,or_false]at hx;rcases hx with rfl|rfl|rfl
  ·exact d2
  ·exact d1
  ·exact d2
structure Aw17(w:World)(q:Nat)(A:Option Addr)(c:Nat)(b o d:Nat)(K0:Option Addr)(d0:Nat)(K1:Option Addr)(d1:Nat)(W:World):Prop where
 pl:IsPl W A 3 c (some ⟨b,o,none⟩) 3 d exS17 exC17
 row:RowV q 28 [.slice A 3 c,.slice (some ⟨b,o,none⟩) 3 d] W
 lt:q<W.heap.size
 x0:W.cell? ⟨b,o,none⟩=some (.slice K0 1 d0)
 x1:W.cell? ⟨b,o+1,none⟩=some (.slice K1 2 d1)
 i0:Ints W W.heap.size K0 [2]
 i1:Ints W W.heap.size K1 [0,1]
 bl:b<W.heap.size
 bel:Below w.heap.size w W
theorem Aw17.next{w:World}{q:Nat}{A:Option Addr}{c b o d:Nat}{K0:Option Addr}{d0:Nat}{K1:Option Addr}{d1:Nat}{W W':World}(h:Aw17 w q A c b o d K0 d0 K1 d1 W)(hb:Below W.heap.size W W'):Aw17 w q A c b o d K0 d0 K1 d1 W':=
 ⟨h.pl.via hb,h.row.below hb h.lt,Nat.lt_of_lt_of_le h.lt hb.size,(hb.cell h.bl).trans h.x0,(hb.cell h.bl).trans h.x1,(h.i0.below hb).more hb.size,(h.i1.below hb).more hb.size,Nat.lt_of_lt_of_le h.bl hb.size,h.bel.trans (hb.mono h.bel.size)⟩
theorem Aw17.c0{w:World}{q:Nat}{A:Option Addr}{c b o d:Nat}{K0:Option Addr}{d0:Nat}{K1:Option Addr}{d1:Nat}{W:World}(h:Aw17 w q A c b o d K0 d0 K1 d1 W):W.cell? ⟨q,0,none⟩=some (.slice A 3 c):=h.row.cell (j:=0) rfl
theorem Aw17.c1{w:World}{q:Nat}{A:Option Addr}{c b o d:Nat}{K0:Option Addr}{d0:Nat}{K1:Option Addr}{d1:Nat}{W:World}(h:Aw17 w q A c b o d K0 d0 K1 d1 W):W.cell? ⟨q,1,none⟩=some (.slice (some ⟨b,o,none⟩) 3 d):=h.row.cell (j:=1) rfl
theorem Aw17.new{w W:World}{A:Option Addr}{c:Nat}{G:Option Addr}{d n m:Nat}(h:IsPl W A n c G m d exS17 exC17)(hb:Below w.heap.size w W):
  n=3/\m=3/\ ∃b o K0 d0 K1 d1,G=some ⟨b,o,none⟩/\Aw17 w W.heap.size A c b o d K0 d0 K1 d1 (W.alloc (.cells #[.slice A 3 c,.slice (some ⟨b,o,none⟩) 3 d] 28)):=by
 obtain rfl:n=3:=h.l1.symm;obtain rfl:m=3:=h.l2.symm;obtain⟨b,o,e,hlt,hc⟩:=h.lol (by decide)
 obtain⟨K0,d0,x0,i0,_⟩:=hc 0 [2] rfl;obtain⟨K1,d1,x1,i1,_⟩:=hc 1 [0,1] rfl;subst e;have b1:Below W.heap.size W (W.alloc (.cells #[.slice A 3 c,.slice (some ⟨b,o,none⟩) 3 d] 28)):=below_alloc _;exact⟨rfl,rfl,b,o,K0,d0,K1,d1,rfl,h.via b1,RowV.new W _ _,by simp,(b1.cell hlt).trans x0,(b1.cell hlt).trans x1,(i0.below b1).more b1.size,(i1.below b1).more b1.size,Nat.lt_of_lt_of_le hlt b1.size,hb.trans (b1.mono hb.size)⟩
theorem awake17_any(w:World)(hT:DTab w):Calls Tryz.prog 9 #[] w fun e w'=>e= .returned (.bool true)/\Below w.heap.size w w':=by
 have TT:=Lib.hid (fun W (b:Below w.heap.size w W)=>(hT.via b:DTab W))
 have BE:=Lib.hid (below17 w).2.2.2.2;have TS:=Lib.hid (exL17_is w hT);have KA3:=Lib.hid (admit_any (A:=some ⟨w.heap.size+1+1+1+1,0,none⟩) (n:=3) (c:=3) (l:=exL17 w.heap.size) (m:=3) (w17e w) rfl (by decide) TS.out (TT.out _ BE.out) ex17Adm)
 go_enter Tryz.func9,Tryz.ntmps9;go_wp2_with fail;refine KA3.out.mono ?_
 rintro e w1 ⟨A1,n1,c1,A2,n2,c2,rfl,hP,b⟩;obtain⟨rfl,rfl,b0,o0,K0,d0,K1,d1,rfl,hA⟩:=Aw17.new hP (BE.out.trans (b.mono BE.out.size));have TS:=Lib.hid ((TS.out.via b).via (below_alloc (.cells #[.slice A1 3 c1,.slice (some ⟨b0,o0,none⟩) 3 c2] 28)));have A:=Lib.hid hA;clear hA hP b KA3 BE hT;have KH1:=Lib.hid (fun W h b=>aheavy_any (A:=A1) (n:=3) (c:=c1) (G:=some ⟨b0,o0,none⟩) (m:=3) (d:=c2) (S:=exS17) (C:=exC17) 1 W h ex17Few (TT.out W b))
 have KH2:=Lib.hid (fun W h b=>aheavy_any (A:=A1) (n:=3) (c:=c1) (G:=some ⟨b0,o0,none⟩) (m:=3) (d:=c2) (S:=exS17) (C:=exC17) 2 W h ex17Few (TT.out W b))
 have KL:=Lib.hid (fun W h b=>alight_any (A:=A1) (n:=3) (c:=c1) (G:=some ⟨b0,o0,none⟩) (m:=3) (d:=c2) (S:=exS17) (C:=exC17) 2 W h ex17Few (TT.out W b))
 have KS1:=Lib.hid (fun W h=>asame_any (A:=A1) (n:=3) (c:=c1) (G:=some ⟨b0,o0,none⟩) (m:=3) (d:=c2) (S:=exS17) (C:=exC17) W h h ex17Few ex17Few)
 have KS2:=Lib.hid (fun W h=>asame_any (A:=A1) (n:=3) (c:=c1) (G:=some ⟨b0,o0,none⟩) (m:=3) (d:=c2) (S:=exS17) (C:=exC17) W h (IsPl.nil W) ex17Few ⟨by decide,by decide,by decide⟩)
 rw[ex17H1]at KH1;rw[ex17H2]at KH2;rw[ex17L2]at KL;rw[decide_eq_true ⟨rfl,rfl⟩]at KS1;rw[decide_eq_false (by decide)]at KS2
 have KA2:=Lib.hid (fun W h b=>admit_any (A:=some ⟨w.heap.size+1+1+1+1,0,none⟩) (n:=3) (c:=3) (l:=exL17 w.heap.size) (m:=2) W rfl (by decide) h (TT.out W b) ex17Full)
 go_wp2_with fail;refine(KA2.out _ TS.out A.out.bel).mono ?_
 rintro e w2 ⟨A3,n3,c3,A4,n4,c4,rfl,hP,b⟩;have A:=Lib.hid ((A.out.next b).next (below_alloc (.cells #[.slice A3 n3 c3,.slice A4 n4 c4] 28)));clear hP b KA2 TS;have c0:=A.out.c0;have c1:=A.out.c1;have x0:=A.out.x0;have x1:=A.out.x1;go_wp2_with fail;refine(ints17 _ _ 1 _ _ [2] _ rfl (by decide) (A.out.next (below_alloc _)).i0 (lit17at _ _ (by simp) [2] _ rfl (by decide))).mono ?_
 rintro e w3 ⟨rfl,b⟩;have A:=Lib.hid ((A.out.next (below_alloc _)).next b);clear b c0 c1 x0 x1;have c0:=A.out.c0;have c1:=A.out.c1;have x0:=A.out.x0;have x1:=A.out.x1;go_wp2_with fail;refine(ints17 _ _ 2 _ _ [0,1] _ rfl (by decide) (A.out.next (below_alloc _)).i1 (lit17at _ _ (by simp) [0,1] _ rfl (by decide))).mono ?_
 rintro e w4 ⟨rfl,b⟩;have A:=Lib.hid ((A.out.next (below_alloc _)).next b);clear b c0 c1 x0 x1;have c0:=A.out.c0;have c1:=A.out.c1;have x0:=A.out.x0;have x1:=A.out.x1;go_wp2_with fail;refine(aright_any 3 _ A.out.pl ex17Few (TT.out _ A.out.bel) true ⟨fun _=>ex17Right,fun _=>rfl⟩).mono ?_
 rintro e w5 ⟨rfl,b⟩;have A:=Lib.hid (A.out.next b);clear b c0 c1 x0 x1;have c0:=A.out.c0;have c1:=A.out.c1;have x0:=A.out.x0;have x1:=A.out.x1;go_wp2_with fail;refine(aright_any 2 _ A.out.pl ex17Few (TT.out _ A.out.bel) false ⟨fun q=>Bool.noConfusion q,fun q=>absurd q ex17Wrong⟩).mono ?_
 rintro e w6 ⟨rfl,b⟩;have A:=Lib.hid (A.out.next b);clear b c0 c1 x0 x1;have c0:=A.out.c0;have c1:=A.out.c1;have x0:=A.out.x0;have x1:=A.out.x1;go_wp2_with fail;refine(KH1.out _ A.out.pl A.out.bel).mono ?_
 rintro e w7 ⟨rfl,b⟩;have A:=Lib.hid (A.out.next b);clear b c0 c1 x0 x1;have c0:=A.out.c0;have c1:=A.out.c1;have x0:=A.out.x0;have x1:=A.out.x1;go_wp2_with fail;refine(KH2.out _ A.out.pl A.out.bel).mono ?_
 rintro e w8 ⟨rfl,b⟩;have A:=Lib.hid (A.out.next b);clear b c0 c1 x0 x1;have c0:=A.out.c0;have c1:=A.out.c1;have x0:=A.out.x0;have x1:=A.out.x1;go_wp2_with fail;refine(KL.out _ A.out.pl A.out.bel).mono ?_
 rintro e w9 ⟨F,q,d2,rfl,b,hq,hO⟩;obtain rfl:q=2:=hq.symm;have A:=Lib.hid (A.out.next b);clear b c0 c1 x0 x1;have HI:=Lib.hid hO.ints;clear hO hq;have c0:=A.out.c0;have c1:=A.out.c1;have x0:=A.out.x0;have x1:=A.out.x1;go_wp2_with fail;refine(ints17 _ _ 2 _ _ [0,2] _ rfl (by decide) ((HI.out.below (below_alloc _)).more (below_alloc _).size) (lit17at _ _ (by simp) [0,2] _ rfl (by decide))).mono ?_
 rintro e w10 ⟨rfl,b⟩;have A:=Lib.hid ((A.out.next (below_alloc _)).next b);clear b c0 c1 x0 x1 HI;have c0:=A.out.c0;have c1:=A.out.c1;have x0:=A.out.x0;have x1:=A.out.x1;go_wp2_with fail;refine(KS1.out _ A.out.pl).mono ?_
 rintro e w11 ⟨rfl,b⟩;have A:=Lib.hid (A.out.next b);clear b c0 c1 x0 x1;have c0:=A.out.c0;have c1:=A.out.c1;have x0:=A.out.x0;have x1:=A.out.x1;go_wp2_with fail;refine(KS2.out _ A.out.pl).mono ?_
 rintro e w12 ⟨rfl,b⟩;have A:=Lib.hid (A.out.next b);clear b c0 c1 x0 x1;have c0:=A.out.c0;have c1:=A.out.c1;have x0:=A.out.x0;have x1:=A.out.x1;go_wp2;go_ret;exact⟨rfl,A.out.bel⟩
end Go.Proofs.YtlfekmbalgkmeaaGreatDoor
