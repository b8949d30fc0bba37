import Derived.Test.YtlfekmbalgkmeaaGreatDoorZM35
import Derived.Test.YtlfekmbalgkmeaaGreatDoorZM36
set_option linter.unusedSimpArgs false
set_option linter.unnecessarySimpa false
set_option linter.unusedVariables false
set_option maxRecDepth 100000
set_option maxHeartbeats 32000000
namespace Go.Proofs.YtlfekmbalgkmeaaGreatDoor
open Go Go.RowKit
theorem AdmA.few {Ts: List Task} {m: Int} {S: List Shp} {C: List (List Int)} {e: Int} (h: AdmA Ts m S C e): FewP S C:=by
 by_cases h0: e = 0
 ·obtain ⟨L,hL⟩:=h.zero h0
  obtain ⟨l1,l2,l3⟩:=hL.len
  refine ⟨by omega,by omega,fun r hr => ?_⟩
  obtain ⟨i,hi,rfl⟩:=List.mem_iff_getElem.mp hr
  have e2: C[i]? = some C[i]:=List.getElem?_eq_getElem hi
  have e1: S[i]? = some S[i]:=List.getElem?_eq_getElem (by omega)
  have q:=(hL.suit e1 e2).2.1
  have:=(coresS_pos (hL.good _ (List.mem_of_getElem? e1))).2.1
  omega
 ·obtain ⟨rfl,rfl⟩:=h.non h0
  exact ⟨by simp,by simp,fun r hr => by simp at hr⟩
theorem law_AdmitMore {A: Option Addr} {n c: Nat} {l: List (Sh × Task)} (m: Int) (w: World) (hT: DTab w) (hn: l.length = n) (h: InTs w A l) (hm: -9223372036854775808 <= m /\ m <= 9223372036854775807) :
  Calls Tryz.prog 7 #[.slice A n c,.int .i64 m] w fun e w' => e = .returned (.bool true) /\ Below w.heap.size w w':=by
 have AW:=Lib.hid (fun W (b: Below w.heap.size w W) => awake17_any W (hT.via b))
 have HI:=Lib.hid (Below.refl w.heap.size w)
 by_cases hf: FewTs l
 ·have FW:=Lib.hid (fun W (b: Below w.heap.size w W) => fewts_any (c:=c) W hn (h.via b) true ⟨fun _ => hf,fun _ => rfl⟩)
  by_cases hm1: m < 1
  ·clear h hT hn hf
   go_enter Tryz.func7,Tryz.ntmps7
   go_wp2_with fail
   refine (AW.out _ HI.out).mono ?_
   rintro e w1 ⟨rfl,b⟩
   have HI:=Lib.hid (HI.out.trans (b.mono HI.out.size))
   clear b
   go_wp2_with fail
   refine (FW.out _ HI.out).mono ?_
   rintro e w2 ⟨rfl,b⟩
   have HI:=Lib.hid (HI.out.trans (b.mono HI.out.size))
   clear b
   go_wp2_with fail
   refine (AW.out _ HI.out).mono ?_
   rintro e w3 ⟨rfl,b⟩
   have HI:=Lib.hid (HI.out.trans (b.mono HI.out.size))
   clear b
   go_wp2
   go_ret
   exact ⟨rfl,HI.out⟩
  ·by_cases hm8: 8 <= m
   ·clear h hT hn hf
    go_enter Tryz.func7,Tryz.ntmps7
    go_wp2_with fail
    refine (AW.out _ HI.out).mono ?_
    rintro e w1 ⟨rfl,b⟩
    have HI:=Lib.hid (HI.out.trans (b.mono HI.out.size))
    clear b
    go_wp2_with fail
    refine (FW.out _ HI.out).mono ?_
    rintro e w2 ⟨rfl,b⟩
    have HI:=Lib.hid (HI.out.trans (b.mono HI.out.size))
    clear b
    go_wp2_with fail
    refine (AW.out _ HI.out).mono ?_
    rintro e w3 ⟨rfl,b⟩
    have HI:=Lib.hid (HI.out.trans (b.mono HI.out.size))
    clear b
    go_wp2
    go_ret
    exact ⟨rfl,HI.out⟩
   ·obtain ⟨S,C,er,hA⟩:=admA_is (pairT l) m
    obtain ⟨S2,C2,er2,hA2⟩:=admA_is (pairT l) (m + 1)
    have h12: n <= 12:=by have:=hf.1; omega
    have hmore:=hA.more hA2 (by omega) (by omega) (fun a b => a.one_ b)
    have HN:=Lib.hid (⟨hn,h12⟩: l.length = n /\ n <= 12)
    have TT:=Lib.hid (fun W (b: Below w.heap.size w W) => (hT.via b: DTab W))
    have OW:=Lib.hid (fun W (b: Below w.heap.size w W) => owns_ts (c:=c) W hn h12 ((h.via b).isTs (hT.via b) hf.2) (hT.via b) hf.2)
    have KP:=Lib.hid (fun F d (l': List (Sh × Task)) W (b: Below w.heap.size w W) (hl: l'.length = n) (hp: pairT l' = pairT l) (ht: IsTs W F l') => admit_any (A:=F) (n:=n) (c:=d) (l:=l') (m:=m) (S:=S) (C:=C) (er:=er) W hl (by omega) ht (hT.via b) (by rw [hp]; exact hA))
    have KQ:=Lib.hid (fun F d (l': List (Sh × Task)) W (b: Below w.heap.size w W) (hl: l'.length = n) (hp: pairT l' = pairT l) (ht: IsTs W F l') => admit_any (A:=F) (n:=n) (c:=d) (l:=l') (m:=m + 1) (S:=S2) (C:=C2) (er:=er2) W hl (by omega) ht (hT.via b) (by rw [hp]; exact hA2))
    have HF1:=Lib.hid (show FewP S C /\ FewP S2 C2 from ⟨hA.few,hA2.few⟩)
    have HMO:=Lib.hid hmore
    clear hA hA2 hmore h hT hn hf h12
    go_enter Tryz.func7,Tryz.ntmps7
    go_wp2_with fail
    refine (AW.out _ HI.out).mono ?_
    rintro e w1 ⟨rfl,b⟩
    have HI:=Lib.hid (HI.out.trans (b.mono HI.out.size))
    clear b
    go_wp2_with fail
    refine (FW.out _ HI.out).mono ?_
    rintro e w2 ⟨rfl,b⟩
    have HI:=Lib.hid (HI.out.trans (b.mono HI.out.size))
    clear b
    go_wp2_with fail
    refine (OW.out _ HI.out).mono ?_
    rintro e w3 ⟨F,d,l1,rfl,hl1,hp1,hts,hz,b⟩
    have HI:=Lib.hid (HI.out.trans (b.mono HI.out.size))
    have KP1:=Lib.hid (KP.out F d l1 w3 HI.out hl1 hp1 hts)
    clear b hl1 hp1 hts hz
    go_wp2_with fail
    refine KP1.out.mono ?_
    rintro e w4 ⟨A1,n1,c1,A2,n2,c2,rfl,hP,b⟩
    have HI:=Lib.hid (HI.out.trans (b.mono HI.out.size))
    have HP:=Lib.hid hP
    clear b KP1 hP
    have hb5: Below w4.heap.size w4 (w4.alloc (.cells #[.slice A1 n1 c1,.slice A2 n2 c2] 28)):=below_alloc _
    have HRW:=Lib.hid (RowV.new w4 28 [.slice A1 n1 c1,.slice A2 n2 c2])
    have HP:=Lib.hid (HP.out.via hb5)
    have HI:=Lib.hid (HI.out.trans (hb5.mono HI.out.size))
    have HLT:=Lib.hid (show w4.heap.size < (w4.alloc (.cells #[.slice A1 n1 c1,.slice A2 n2 c2] 28)).heap.size by simp)
    clear hb5
    go_wp2_with fail
    refine (OW.out _ HI.out).mono ?_
    rintro e w5 ⟨F,d,l1,rfl,hl1,hp1,hts,hz,b⟩
    have HI:=Lib.hid (HI.out.trans (b.mono HI.out.size))
    have HP:=Lib.hid (HP.out.via b)
    have HRW:=Lib.hid (HRW.out.below b HLT.out)
    have HLT:=Lib.hid (Nat.lt_of_lt_of_le HLT.out b.size)
    have KP1:=Lib.hid (KQ.out F d l1 w5 HI.out hl1 hp1 hts)
    clear b hl1 hp1 hts hz
    go_wp2_with fail
    refine KP1.out.mono ?_
    rintro e w6 ⟨A3,n3,c3,A4,n4,c4,rfl,hP,b⟩
    have HI:=Lib.hid (HI.out.trans (b.mono HI.out.size))
    have HP:=Lib.hid (HP.out.via b)
    have HRW:=Lib.hid (HRW.out.below b HLT.out)
    have HLT:=Lib.hid (Nat.lt_of_lt_of_le HLT.out b.size)
    have HP2:=Lib.hid hP
    clear b KP1 hP
    by_cases h0: er = 0
    ·subst h0
     obtain ⟨g1,g2,g3⟩:=HMO.out.1 rfl
     subst g1 g2 g3
     have hb5: Below w6.heap.size w6 (w6.alloc (.cells #[.slice A3 n3 c3,.slice A4 n4 c4] 28)):=below_alloc _
     have HP:=Lib.hid (HP.out.via hb5)
     have HP2:=Lib.hid (HP2.out.via hb5)
     have HI:=Lib.hid (HI.out.trans (hb5.mono HI.out.size))
     have r1:=HRW.out.below hb5 HLT.out
     have r2:=RowV.new w6 28 [.slice A3 n3 c3,.slice A4 n4 c4]
     have q10:=r1.cell (j:=0) rfl
     have q11:=r1.cell (j:=1) rfl
     have q20:=r2.cell (j:=0) rfl
     have q21:=r2.cell (j:=1) rfl
     have KS:=Lib.hid (asame_any _ HP.out HP2.out HF1.out.1 HF1.out.2)
     rw [decide_eq_true ⟨rfl,rfl⟩] at KS
     clear hb5 r1 r2
     go_wp2_with fail
     refine KS.out.mono ?_
     rintro e w7 ⟨rfl,b⟩
     have HI:=Lib.hid (HI.out.trans (b.mono HI.out.size))
     clear b KS q10 q11 q20 q21
     go_wp2
     go_ret
     exact ⟨rfl,HI.out⟩
    ·have hb5: Below w6.heap.size w6 (w6.alloc (.cells #[.slice A3 n3 c3,.slice A4 n4 c4] 28)):=below_alloc _
     have HI:=Lib.hid (HI.out.trans (hb5.mono HI.out.size))
     clear hb5
     by_cases h1: er = 171
     ·subst h1
      go_wp2
      go_ret
      exact ⟨rfl,HI.out⟩
     ·have h2: er = er2:=(HMO.out.2 h0).resolve_left h1
      subst h2
      have d1: (er != 0) = true:=by simpa using h0
      have d2: (er == 0) = false:=by simpa using h0
      have d3: (er == 171) = false:=by simpa using h1
      go_wp2
      go_ret
      exact ⟨rfl,HI.out⟩
 ·have FW:=Lib.hid (fun W (b: Below w.heap.size w W) => fewts_any (c:=c) W hn (h.via b) false ⟨fun q => Bool.noConfusion q,fun q => absurd q hf⟩)
  clear h hT hn hf
  go_enter Tryz.func7,Tryz.ntmps7
  go_wp2_with fail
  refine (AW.out _ HI.out).mono ?_
  rintro e w1 ⟨rfl,b⟩
  have HI:=Lib.hid (HI.out.trans (b.mono HI.out.size))
  clear b
  go_wp2_with fail
  refine (FW.out _ HI.out).mono ?_
  rintro e w2 ⟨rfl,b⟩
  have HI:=Lib.hid (HI.out.trans (b.mono HI.out.size))
  clear b
  go_wp2_with fail
  refine (AW.out _ HI.out).mono ?_
  rintro e w3 ⟨rfl,b⟩
  have HI:=Lib.hid (HI.out.trans (b.mono HI.out.size))
  clear b
  go_wp2
  go_ret
  exact ⟨rfl,HI.out⟩
end Go.Proofs.YtlfekmbalgkmeaaGreatDoor
