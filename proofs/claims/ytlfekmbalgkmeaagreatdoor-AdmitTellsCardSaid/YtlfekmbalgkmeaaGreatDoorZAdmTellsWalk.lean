import Derived.Test.YtlfekmbalgkmeaaGreatDoorZAdmRAdmit
import Derived.Test.YtlfekmbalgkmeaaGreatDoorZAdmMoreWalk
import Derived.Test.YtlfekmbalgkmeaaGreatDoorZM37
set_option linter.unusedSimpArgs false
set_option linter.unnecessarySimpa false
set_option linter.unusedVariables false
set_option maxRecDepth 100000
set_option maxHeartbeats 16000000
namespace Go.Proofs.YtlfekmbalgkmeaaGreatDoor
open Go Go.RowKit
theorem radmit_bad{A:Option Addr}{n c:Nat}{m:Int}(wf:World)(hbad: ¬MayA n m)(hn:n<=1000):
  Calls Tryz.prog 13 #[.slice A n c,.int .i64 m] wf fun e w'=>e= .returned (.tuple #[.agg #[.slice none 0 0,.slice none 0 0],.int .i64 170])/\Below wf.heap.size wf w':=by
 obtain⟨w0,hw0⟩: ∃w0,w0=(wf.alloc (.cells #[.slice none 0 0,.slice none 0 0] 28)).alloc (.cells #[.slice none 0 0,.slice none 0 0] 28):=⟨_,rfl⟩;have hr1:RowV (wf.heap.size+1) 28 [.slice none 0 0,.slice none 0 0] w0:=by
  have:=RowV.new (wf.alloc (.cells #[.slice none 0 0,.slice none 0 0] 28)) 28 [.slice none 0 0,.slice none 0 0];rw[hw0]
  simpa using this
 have hr0:RowV wf.heap.size 28 [.slice none 0 0,.slice none 0 0] w0:=by rw[hw0];exact(RowV.new wf _ _).alloc _
 have hb0:Below wf.heap.size wf w0:=by rw[hw0];exact(below_alloc _).trans ((below_alloc _).mono (by simp))
 have x0:=hr0.cell (j:=0) rfl;have x1:=hr0.cell (j:=1) rfl;have f0:=hr0.frozen 0;have f1:=hr0.frozen 1;have y0:=hr1.cell (j:=0) rfl;have y1:=hr1.cell (j:=1) rfl;have HE:=Lib.hid (And.intro hr0 hb0);rw[hw0]at x0 x1 f0 f1 y0 y1 HE;clear hw0 hr0 hr1 hb0
 by_cases h8:n<=8
 ·have hgd: decide ((n: Int) > 8) = false:=decide_eq_false (by omega)
  have hgd2:decide (8<n)=false:=decide_eq_false (by omega)
  by_cases h1:m<1
  ·have e1: decide (m < 1) = true:=decide_eq_true h1
   clear h1 hbad;go_enter Tryz.func13,Tryz.ntmps13;go_wp2;refine bodyPost_ret (ret_plan rfl rfl rfl HE.out.1) rfl ⟨rfl,HE.out.2⟩
  ·have e1: decide (m < 1) = false:=decide_eq_false h1
   have e2:decide (m>8)=true:=decide_eq_true (by
    rcases Int.lt_or_le 8 m with q|q
    ·exact q
    ·exact absurd ⟨h8,by omega,q⟩ hbad)
   clear h1 hbad;go_enter Tryz.func13,Tryz.ntmps13;go_wp2;refine bodyPost_ret (ret_plan rfl rfl rfl HE.out.1) rfl ⟨rfl,HE.out.2⟩
 ·have hgd: decide ((n: Int) > 8) = true:=decide_eq_true (by omega)
  have hgd2:decide (8<n)=true:=decide_eq_true (by omega)
  clear hbad;go_enter Tryz.func13,Tryz.ntmps13;go_wp2;refine bodyPost_ret (ret_plan rfl rfl rfl HE.out.1) rfl ⟨rfl,HE.out.2⟩
theorem radmit_any{A:Option Addr}{n c:Nat}{l:List (Sh×Task)}{m:Int}{S:List Shp}{C:List (List Int)}{er:Int}(wf:World)(hn:l.length=n)(hn2:n<=1000)(h:IsTs wf A l)(hA:AdmA (pairT l) m S C er):
  Calls Tryz.prog 13 #[.slice A n c,.int .i64 m] wf fun e w'=> ∃A1 n1 c1 A2 n2 c2,e= .returned (.tuple #[.agg #[.slice A1 n1 c1,.slice A2 n2 c2],.int .i64 er])/\IsPl w' A1 n1 c1 A2 n2 c2 S C/\Below wf.heap.size wf w':=by
 by_cases hM:MayA n m
 ·obtain ⟨k,rfl⟩: ∃ k: Nat,m = (k: Int):=⟨m.toNat,by have:=hM.2; omega⟩
  exact radmit_good wf hn hM.1 (by have:=hM.2;omega) (by have:=hM.2;omega) h hA
 ·have hM2: ¬ MayA (pairT l).length m:=by rw [pairT_len,hn]; exact hM
  obtain⟨rfl,rfl,rfl⟩:S= []/\C= []/\er=170:=by
   rcases hA with⟨_,h⟩|⟨h,_⟩|⟨h,_⟩|⟨h,_⟩
   ·exact h
   ·exact absurd h hM2
   ·exact absurd h hM2
   ·exact absurd h hM2
  refine(radmit_bad (c:=c) wf hM hn2).mono ?_
  rintro e w' ⟨rfl,hb⟩;exact⟨none,0,0,none,0,0,rfl,IsPl.nil _,hb⟩
theorem law_AdmitTells{A:Option Addr}{n c:Nat}{l:List (Sh×Task)}(m:Int)(w:World)(hT:DTab w)(hn:l.length=n)(h:InTs w A l):
  Calls Tryz.prog 3 #[.slice A n c,.int .i64 m] w fun e w'=>e= .returned (.bool true)/\Below w.heap.size w w':=by
 have AW:=Lib.hid (fun W (b:Below w.heap.size w W)=>awake17_any W (hT.via b))
 have HI:=Lib.hid (Below.refl w.heap.size w)
 by_cases hf:FewTs l
 ·have FW:=Lib.hid (fun W (b: Below w.heap.size w W) => fewts_any (c:=c) W hn (h.via b) true ⟨fun _ => hf,fun _ => rfl⟩)
  obtain⟨S,C,er,hA⟩:=admA_is (pairT l) m;have h12:n<=12:=by have:=hf.1;omega
  have OW:=Lib.hid (fun W (b:Below w.heap.size w W)=>owns_ts (c:=c) W hn h12 ((h.via b).isTs (hT.via b) hf.2) (hT.via b) hf.2)
  have KP:=Lib.hid (fun F d (l':List (Sh×Task)) W (b:Below w.heap.size w W) (hl:l'.length=n) (hp:pairT l'=pairT l) (ht:IsTs W F l')=>admit_any (A:=F) (n:=n) (c:=d) (l:=l') (m:=m) (S:=S) (C:=C) (er:=er) W hl (by omega) ht (hT.via b) (by rw[hp];exact hA))
  have KQ:=Lib.hid (fun W (b:Below w.heap.size w W)=>radmit_any (A:=A) (n:=n) (c:=c) (l:=l) (m:=m) (S:=S) (C:=C) (er:=er) W hn (by omega) ((h.via b).isTs (hT.via b) hf.2) hA)
  have HF:=Lib.hid hA.few;clear hA h hT hn hf h12;go_enter Tryz.func3,Tryz.ntmps3;go_wp2_with fail;refine(AW.out _ HI.out).mono ?_
  rintro e w1 ⟨rfl,b⟩;have HI:=Lib.hid (HI.out.trans (b.mono HI.out.size));clear b;go_wp2_with fail;refine(FW.out _ HI.out).mono ?_
  rintro e w2 ⟨rfl,b⟩;have HI:=Lib.hid (HI.out.trans (b.mono HI.out.size));clear b;go_wp2_with fail;refine(OW.out _ HI.out).mono ?_
  rintro e o3 ⟨F3,d3,l3,rfl,hl,hp,hts,hz,b⟩;have HI:=Lib.hid (HI.out.trans (b.mono HI.out.size));have KP3:=Lib.hid (KP.out F3 d3 l3 o3 HI.out hl hp hts);clear b hl hp hts hz;go_wp2_with fail;refine KP3.out.mono ?_
  rintro e p3 ⟨A1,n1,c1,A2,n2,c2,rfl,hP,b⟩;have hb:Below p3.heap.size p3 (p3.alloc (.cells #[.slice A1 n1 c1,.slice A2 n2 c2] 28)):=below_alloc _;have HI:=Lib.hid ((HI.out.trans (b.mono HI.out.size)).trans (hb.mono (HI.out.trans (b.mono HI.out.size)).size));have HP:=Lib.hid (hP.via hb);have HR:=Lib.hid (RowV.new p3 28 [.slice A1 n1 c1,.slice A2 n2 c2]);clear b KP3 hP KP OW hb;go_wp2_with fail;refine(KQ.out _ HI.out).mono ?_
  rintro e p4 ⟨A3,n3,c3,A4,n4,c4,rfl,hQ,b⟩;have hb:Below p4.heap.size p4 (p4.alloc (.cells #[.slice A3 n3 c3,.slice A4 n4 c4] 28)):=below_alloc _;have HI2:=Lib.hid ((HI.out.trans (b.mono HI.out.size)).trans (hb.mono (HI.out.trans (b.mono HI.out.size)).size));have HP2:=Lib.hid ((HP.out.via b).via hb);have HQ:=Lib.hid (hQ.via hb);have hR:=(HR.out.below b (by simp)).below hb (by have:=b.size;simp at this;omega)
  have hR2:=RowV.new p4 28 [.slice A3 n3 c3,.slice A4 n4 c4];have a0:=hR.cell (j:=0) rfl;have a1:=hR.cell (j:=1) rfl;have b0:=hR2.cell (j:=0) rfl;have b1:=hR2.cell (j:=1) rfl;have KS:=Lib.hid (rsame17_any _ HP2.out HQ.out HF.out HF.out);rw[decide_eq_true ⟨rfl,rfl⟩]at KS;clear b hb hQ hR hR2;go_wp2_with fail;refine KS.out.mono ?_
  rintro e u1 ⟨rfl,b⟩;have HI:=Lib.hid (HI2.out.trans (b.mono HI2.out.size));clear b KS a0 a1 b0 b1;go_wp2;go_ret;exact⟨by first|rfl|simp,HI.out⟩
 ·have FW:=Lib.hid (fun W (b: Below w.heap.size w W) => fewts_any (c:=c) W hn (h.via b) false ⟨fun q => Bool.noConfusion q,fun q => absurd q hf⟩)
  clear h hT hn hf;go_enter Tryz.func3,Tryz.ntmps3;go_wp2_with fail;refine(AW.out _ HI.out).mono ?_
  rintro e v1 ⟨rfl,b⟩;have HI:=Lib.hid (HI.out.trans (b.mono HI.out.size));clear b;go_wp2_with fail;refine(FW.out _ HI.out).mono ?_
  rintro e v2 ⟨rfl,b⟩;have HI:=Lib.hid (HI.out.trans (b.mono HI.out.size));clear b;go_wp2_with fail;refine(AW.out _ HI.out).mono ?_
  rintro e v3 ⟨rfl,b⟩;have HI:=Lib.hid (HI.out.trans (b.mono HI.out.size));clear b;go_wp2;go_ret;exact⟨rfl,HI.out⟩
end Go.Proofs.YtlfekmbalgkmeaaGreatDoor
