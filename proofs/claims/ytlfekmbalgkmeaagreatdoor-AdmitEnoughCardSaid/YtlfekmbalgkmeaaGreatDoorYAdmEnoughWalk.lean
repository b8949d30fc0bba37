import Derived.Test.YtlfekmbalgkmeaaGreatDoorYAdmMoreWalk
import Derived.Test.YtlfekmbalgkmeaaGreatDoorYM32
set_option linter.unusedSimpArgs false
set_option linter.unnecessarySimpa false
set_option linter.unusedVariables false
set_option maxRecDepth 100000
set_option maxHeartbeats 32000000
namespace Go.Proofs.YtlfekmbalgkmeaaGreatDoor
open Go Go.RowKit
def SoFar17 (l: List (Sh × Task)) (j: Nat) (q: Int): Prop:=(∀ T ∈ (pairT l).take j,lowX T = 0 /\ faultS (shapeT T) = 0) /\ q = (((shpsT (pairT l)).take j).map coresS).foldl (· + ·) 0
theorem SoFar17.next {l: List (Sh × Task)} {j: Nat} {q: Int} {s: Sh} {T: Task} (h: SoFar17 l j q) (hT: l[j]? = some (s,T)) (h1: lowX T = 0) (h2: faultS (shapeT T) = 0): SoFar17 l (j + 1) (q + coresS (shapeT T)):=by
 refine ⟨fun T' hm => ?_,?_⟩
 ·rw [take_one (pairT_at hT)] at hm
  rcases List.mem_append.mp hm with z | z
  ·exact h.1 _ z
  ·rw [List.mem_singleton.mp z]; exact ⟨h1,h2⟩
 ·rw [take_one (shpsT_at (pairT_at hT)),List.map_append,List.foldl_append,<- h.2]
  rfl
theorem AdmA.unwell {l: List (Sh × Task)} {m: Int} {S: List Shp} {C: List (List Int)} {e: Int} (h: AdmA (pairT l) m S C e) (h8: l.length <= 8) (h1: 1 <= m /\ m <= 8) {j: Nat} {s: Sh} {T: Task} (hT: l[j]? = some (s,T)) (hx: lowX T ≠ 0 \/ faultS (shapeT T) ≠ 0): e ≠ 0:=by
 have hk:=pairT_at hT
 refine (h.enough (by rw [pairT_len]; exact h8) h1).1 ?_
 rcases hx with z | z
 ·exact .inl fun q => z (fstX_zero.mp q _ (List.mem_map.mpr ⟨T,List.mem_of_getElem? hk,rfl⟩))
 ·exact .inr fun q => z (fstX_zero.mp q _ (List.mem_map.mpr ⟨shapeT T,List.mem_of_getElem? (shpsT_at hk),rfl⟩))
theorem AdmA.well {l: List (Sh × Task)} {m: Int} {S: List Shp} {C: List (List Int)} {e: Int} {q: Int} {n: Nat} (h: AdmA (pairT l) m S C e) (hn: l.length = n) (h8: n <= 8) (h1: 1 <= m /\ m <= 8) (hS: SoFar17 l n q): e = 0 \/ (e = 171 /\ m < q):=by
 obtain ⟨a,b⟩:=hS
 rw [List.take_of_length_le (by rw [pairT_len]; omega)] at a
 rw [List.take_of_length_le (by rw [shpsT_len,pairT_len]; omega)] at b
 have z1: fstX ((pairT l).map lowX) = 0:=fstX_zero.mpr fun x hx => by
  obtain ⟨T,hT,rfl⟩:=List.mem_map.mp hx
  exact (a T hT).1
 have z2: fstX ((shpsT (pairT l)).map faultS) = 0:=fstX_zero.mpr fun x hx => by
  obtain ⟨s,hs,rfl⟩:=List.mem_map.mp hx
  obtain ⟨T,hT,rfl⟩:=List.mem_map.mp hs
  exact (a T hT).2
 have:=(h.enough (by rw [pairT_len]; omega) h1).2 z1 z2
 rw [used_count (shapes_good z2),<- b] at this
 exact this
theorem law_AdmitEnough {A: Option Addr} {n c: Nat} {l: List (Sh × Task)} (m: Int) (w: World) (hT: DTab w) (hn: l.length = n) (h: InTs w A l) (hA: A = none -> n = 0 /\ c = 0) (hc: n <= c) (hm: -9223372036854775808 <= m /\ m <= 9223372036854775807) :
  Calls Tryz.prog 6 #[.slice A n c,.int .i64 m] w fun e w' => e = .returned (.bool true) /\ Below w.heap.size w w':=by
 have AW:=Lib.hid (fun W (b: Below w.heap.size w W) => awake17_any W (hT.via b))
 have HI:=Lib.hid (Below.refl w.heap.size w)
 by_cases hf: FewTs l
 ·have FW:=Lib.hid (fun W (b: Below w.heap.size w W) => fewts_any (c:=c) W hn (h.via b) true ⟨fun _ => hf,fun _ => rfl⟩)
  by_cases hn8: 8 < n
  ·clear h hT hn hf
   go_enter Tryz.func6,Tryz.ntmps6
   go_wp2_with fail
   refine (AW.out _ HI.out).mono ?_
   rintro e v1 ⟨rfl,b⟩
   have HI:=Lib.hid (HI.out.trans (b.mono HI.out.size))
   clear b
   go_wp2_with fail
   refine (FW.out _ HI.out).mono ?_
   rintro e v2 ⟨rfl,b⟩
   have HI:=Lib.hid (HI.out.trans (b.mono HI.out.size))
   clear b
   go_wp2_with fail
   refine (AW.out _ HI.out).mono ?_
   rintro e v3 ⟨rfl,b⟩
   have HI:=Lib.hid (HI.out.trans (b.mono HI.out.size))
   clear b
   go_wp2
   go_ret
   exact ⟨rfl,HI.out⟩
  ·skip
   by_cases hm1: m < 1
   ·clear h hT hn hf
    go_enter Tryz.func6,Tryz.ntmps6
    go_wp2_with fail
    refine (AW.out _ HI.out).mono ?_
    rintro e v1 ⟨rfl,b⟩
    have HI:=Lib.hid (HI.out.trans (b.mono HI.out.size))
    clear b
    go_wp2_with fail
    refine (FW.out _ HI.out).mono ?_
    rintro e v2 ⟨rfl,b⟩
    have HI:=Lib.hid (HI.out.trans (b.mono HI.out.size))
    clear b
    go_wp2_with fail
    refine (AW.out _ HI.out).mono ?_
    rintro e v3 ⟨rfl,b⟩
    have HI:=Lib.hid (HI.out.trans (b.mono HI.out.size))
    clear b
    go_wp2
    go_ret
    exact ⟨rfl,HI.out⟩
   ·skip
    by_cases hm8: 8 < m
    ·clear h hT hn hf
     go_enter Tryz.func6,Tryz.ntmps6
     go_wp2_with fail
     refine (AW.out _ HI.out).mono ?_
     rintro e v1 ⟨rfl,b⟩
     have HI:=Lib.hid (HI.out.trans (b.mono HI.out.size))
     clear b
     go_wp2_with fail
     refine (FW.out _ HI.out).mono ?_
     rintro e v2 ⟨rfl,b⟩
     have HI:=Lib.hid (HI.out.trans (b.mono HI.out.size))
     clear b
     go_wp2_with fail
     refine (AW.out _ HI.out).mono ?_
     rintro e v3 ⟨rfl,b⟩
     have HI:=Lib.hid (HI.out.trans (b.mono HI.out.size))
     clear b
     go_wp2
     go_ret
     exact ⟨rfl,HI.out⟩
    ·skip
     obtain ⟨S,C,er,hA0⟩:=admA_is (pairT l) m
     have h12: n <= 12:=by have:=hf.1; omega
     have TT:=Lib.hid (fun W (b: Below w.heap.size w W) => (hT.via b: DTab W))
     have TS:=Lib.hid (fun W (b: Below w.heap.size w W) => (h.via b).isTs (hT.via b) hf.2)
     have OW:=Lib.hid (fun W (b: Below w.heap.size w W) => owns_ts (c:=c) W hn h12 ((h.via b).isTs (hT.via b) hf.2) (hT.via b) hf.2)
     have KP:=Lib.hid (fun F d (l': List (Sh × Task)) W (b: Below w.heap.size w W) (hl: l'.length = n) (hp: pairT l' = pairT l) (ht: IsTs W F l') => admit_any (A:=F) (n:=n) (c:=d) (l:=l') (m:=m) (S:=S) (C:=C) (er:=er) W hl (by omega) ht (hT.via b) (by rw [hp]; exact hA0))
     have HN:=Lib.hid (show l.length = n /\ n <= 8 from ⟨hn,by omega⟩)
     have HW:=Lib.hid (fun q => hA0.well (q:=q) hn (by omega) ⟨by omega,by omega⟩)
     have HU:=Lib.hid (fun j s T => hA0.unwell (j:=j) (s:=s) (T:=T) (by omega) ⟨by omega,by omega⟩)
     clear hA0 h hT hn hf hA hc hm
     go_enter Tryz.func6,Tryz.ntmps6
     go_wp2_with fail
     refine (AW.out _ HI.out).mono ?_
     rintro e v1 ⟨rfl,b⟩
     have HI:=Lib.hid (HI.out.trans (b.mono HI.out.size))
     clear b
     go_wp2_with fail
     refine (FW.out _ HI.out).mono ?_
     rintro e v2 ⟨rfl,b⟩
     have HI:=Lib.hid (HI.out.trans (b.mono HI.out.size))
     clear b
     go_wp2
     go_loopw [5,6] (fun sv iv wr => ∃ (j: Nat) (q: Int),j <= n /\ sv = .int .i64 q /\ iv = .int .i64 j /\ 0 <= q /\ q <= 8 * j /\ Hid (SoFar17 l j q) /\ Hid (Below w.heap.size w wr)) (fun _ i _ => n - (intOf i).toNat)
     case atStart => exact ⟨0,0,Nat.zero_le _,rfl,rfl,Int.le_refl _,Int.le_refl _,Lib.hid ⟨fun T hT => by simp at hT,rfl⟩,HI⟩
     case round =>
      obtain ⟨j,q,hj,rfl,rfl,hq0,hq8,HS,HI⟩:=hrel
      by_cases hlt: j < n
      ·obtain ⟨b,off,P,np,pc,E,ne,ec,Fu,nf,fc,R,nr,rc,T,rfl,hbg,hek,c0,c1,c2,c3,c4,c5⟩:=(TS.out wr HI.out).tks.at_ (k:=j) (by rw [HN.out.1]; exact hlt)
       have HK:=Lib.hid hek
       have HD:=Lib.hid ((TS.out wr HI.out).each _ (List.mem_of_getElem? hek))
       clear hek
       have KO:=Lib.hid (own_d HD.out)
       unfold Sh.arg at KO
       dsimp only at KO
       have KC:=Lib.hid (fun W s' (hD: IsD W s' T) => cshape_any s' T W hD)
       unfold Sh.arg at KC
       obtain ⟨s,hs⟩: ∃ s,s = shapeT T:=⟨_,rfl⟩
       obtain ⟨y,hy⟩: ∃ y,y = lowX T:=⟨_,rfl⟩
       obtain ⟨f,hf⟩: ∃ f,f = faultS s:=⟨_,rfl⟩
       obtain ⟨z,hz⟩: ∃ z,z = coresS s:=⟨_,rfl⟩
       obtain ⟨per,hper⟩: ∃ q,q = T.period:=⟨_,rfl⟩
       obtain ⟨dea,hdea⟩: ∃ q,q = T.deadline:=⟨_,rfl⟩
       have HU1:=Lib.hid (HU.out j _ T HK.out)
       have HS1:=Lib.hid (HS.out.next HK.out)
       have HZ:=Lib.hid (show f = 0 -> 1 <= z /\ z <= 8 from fun e => by rw [hz]; have:=coresS_pos (s:=s) (by rw [<- hf]; exact e); exact ⟨this.1,this.2.1⟩)
       have KK:=Lib.hid (fun W (b: Below w.heap.size w W) => ccores_any s W (TT.out W b))
       rw [<- hf,<- hz] at KK
       rw [<- hs,<- hy] at KC HU1 HS1
       rw [<- hf] at HU1 HS1
       rw [<- hz] at HS1
       rw [<- hper,<- hdea] at KO KC
       rw [<- hper] at c0
       rw [<- hdea] at c1
       clear hs hy hf hz hper hdea HD
       obtain ⟨st,sl,sm,sd,sp⟩:=s
       unfold Shp.val at KC KK
       dsimp only at KC KK
       go_wp2_with fail
       refine KO.out.mono ?_
       rintro e w1 ⟨⟨P2,np2,pc2,E2,ne2,ec2,F2,nf2,fc2,R2,nr2,rc2⟩,rfl,hD,b⟩
       have HI:=Lib.hid (HI.out.trans (b.mono HI.out.size))
       have HD:=Lib.hid hD
       clear b hD KO c0 c1 c2 c3 c4 c5
       go_wp2_with fail
       refine (KC.out _ _ HD.out).mono ?_
       rintro e w2 ⟨rfl,b⟩
       have HI:=Lib.hid (HI.out.trans (b.mono HI.out.size))
       clear b KC HD
       have hb: Below w2.heap.size w2 (w2.alloc (.cells #[.int .i64 st,.int .i64 sl,.int .i64 sm,.int .i64 sd,.int .i64 sp] 44)):=below_alloc _
       have HI:=Lib.hid (HI.out.trans (hb.mono HI.out.size))
       clear hb
       go_wp2_with fail
       refine (KK.out _ HI.out).mono ?_
       rintro e w3 ⟨rfl,b⟩
       have HI:=Lib.hid (HI.out.trans (b.mono HI.out.size))
       clear b KK
       by_cases hy0: y = 0
       ·subst hy0
        by_cases hf0: f = 0
        ·subst hf0
         obtain ⟨hz1,hz8⟩:=HZ.out rfl
         have hwr: IntKind.wrap .i64 (q + z) = q + z:=IntWalk.i64_in _ (by omega)
         have HS2:=Lib.hid (HS1.out rfl rfl)
         go_wp2
         go_roundw
         case rel => exact ⟨j + 1,q + z,by omega,by go_num,by go_num,by omega,by omega,HS2,HI⟩
         case measure => simp [intOf]; omega
        ·have hf1: (f != 0) = true:=by simpa using hf0
         have HE:=Lib.hid (HU1.out (by first | exact .inl (by assumption) | exact .inr (by assumption)))
         go_wp2_with fail
         refine (OW.out _ HI.out).mono ?_
         rintro e o1 ⟨F1,d1,l1,rfl,hl,hp,hts,hz,b⟩
         have HI:=Lib.hid (HI.out.trans (b.mono HI.out.size))
         have KP1:=Lib.hid (KP.out F1 d1 l1 o1 HI.out hl hp hts)
         clear b hl hp hts hz
         go_wp2_with fail
         refine KP1.out.mono ?_
         rintro e p1 ⟨A1,n1,c1,A2,n2,c2,rfl,hP,b⟩
         have HI:=Lib.hid (HI.out.trans (b.mono HI.out.size))
         clear b KP1 hP
         have hb: Below p1.heap.size p1 (p1.alloc (.cells #[.slice A1 n1 c1,.slice A2 n2 c2] 28)):=below_alloc _
         have HI:=Lib.hid (HI.out.trans (hb.mono HI.out.size))
         clear hb
         have he: (er != 0) = true:=by have:=HE.out; simpa using this
         go_wp2
         go_ret
         exact ⟨rfl,HI.out⟩
       ·have hy1: (y != 0) = true:=by simpa using hy0
        have HE:=Lib.hid (HU1.out (by first | exact .inl (by assumption) | exact .inr (by assumption)))
        go_wp2_with fail
        refine (OW.out _ HI.out).mono ?_
        rintro e o1 ⟨F1,d1,l1,rfl,hl,hp,hts,hz,b⟩
        have HI:=Lib.hid (HI.out.trans (b.mono HI.out.size))
        have KP1:=Lib.hid (KP.out F1 d1 l1 o1 HI.out hl hp hts)
        clear b hl hp hts hz
        go_wp2_with fail
        refine KP1.out.mono ?_
        rintro e p1 ⟨A1,n1,c1,A2,n2,c2,rfl,hP,b⟩
        have HI:=Lib.hid (HI.out.trans (b.mono HI.out.size))
        clear b KP1 hP
        have hb: Below p1.heap.size p1 (p1.alloc (.cells #[.slice A1 n1 c1,.slice A2 n2 c2] 28)):=below_alloc _
        have HI:=Lib.hid (HI.out.trans (hb.mono HI.out.size))
        clear hb
        have he: (er != 0) = true:=by have:=HE.out; simpa using this
        go_wp2
        go_ret
        exact ⟨rfl,HI.out⟩
      ·obtain rfl: j = n:=by omega
       have HV:=Lib.hid (HW.out q HS.out)
       go_wp2_with fail
       refine (OW.out _ HI.out).mono ?_
       rintro e o2 ⟨F2,d2,l2,rfl,hl,hp,hts,hz,b⟩
       have HI:=Lib.hid (HI.out.trans (b.mono HI.out.size))
       have KP2:=Lib.hid (KP.out F2 d2 l2 o2 HI.out hl hp hts)
       clear b hl hp hts hz
       go_wp2_with fail
       refine KP2.out.mono ?_
       rintro e p2 ⟨A1,n1,c1,A2,n2,c2,rfl,hP,b⟩
       have HI:=Lib.hid (HI.out.trans (b.mono HI.out.size))
       clear b KP2 hP
       have hb: Below p2.heap.size p2 (p2.alloc (.cells #[.slice A1 n1 c1,.slice A2 n2 c2] 28)):=below_alloc _
       have HI:=Lib.hid (HI.out.trans (hb.mono HI.out.size))
       clear hb
       by_cases h0: er = 0
       ·subst h0
        go_wp2
        go_ret
        exact ⟨rfl,HI.out⟩
       ·obtain ⟨rfl,hlt2⟩:=HV.out.resolve_left h0
        have hgt: decide (q > m) = true:=decide_eq_true hlt2
        go_wp2
        go_ret
        exact ⟨rfl,HI.out⟩
 ·have FW:=Lib.hid (fun W (b: Below w.heap.size w W) => fewts_any (c:=c) W hn (h.via b) false ⟨fun q => Bool.noConfusion q,fun q => absurd q hf⟩)
  clear h hT hn hf
  go_enter Tryz.func6,Tryz.ntmps6
  go_wp2_with fail
  refine (AW.out _ HI.out).mono ?_
  rintro e v1 ⟨rfl,b⟩
  have HI:=Lib.hid (HI.out.trans (b.mono HI.out.size))
  clear b
  go_wp2_with fail
  refine (FW.out _ HI.out).mono ?_
  rintro e v2 ⟨rfl,b⟩
  have HI:=Lib.hid (HI.out.trans (b.mono HI.out.size))
  clear b
  go_wp2_with fail
  refine (AW.out _ HI.out).mono ?_
  rintro e v3 ⟨rfl,b⟩
  have HI:=Lib.hid (HI.out.trans (b.mono HI.out.size))
  clear b
  go_wp2
  go_ret
  exact ⟨rfl,HI.out⟩
end Go.Proofs.YtlfekmbalgkmeaaGreatDoor
