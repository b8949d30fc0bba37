import Derived.Test.YtlfekmbalgkmeaaGreatDoorYM29
import Derived.Test.YtlfekmbalgkmeaaGreatDoorYM31
set_option linter.unusedSimpArgs false
set_option linter.unnecessarySimpa false
set_option linter.unusedVariables false
set_option maxRecDepth 100000
set_option maxHeartbeats 8000000
namespace Go.Proofs.YtlfekmbalgkmeaaGreatDoor
open Go Go.RowKit
theorem rfew17_any {A: Option Addr} {n c: Nat} {G: Option Addr} {m d: Nat} {S: List Shp} {C: List (List Int)} (wf: World) (h: IsPl wf A n c G m d S C) (r: Bool) (hr: r = true ↔ FewP S C) :
  Calls Tryz.prog 15 #[.agg #[.slice A n c,.slice G m d]] wf fun e w' => e = .returned (.bool r) /\ Below wf.heap.size wf w':=by
 obtain ⟨g,hg⟩: ∃ g,g = wf.heap.size:=⟨_,rfl⟩
 have HGs:=Lib.hid hg
 have HPl:=Lib.hid (fun W (b: Below wf.heap.size wf W) => h.via b)
 have HR:=Lib.hid hr
 have HRW:=Lib.hid (RowV.new wf 28 [.slice A n c,.slice G m d])
 have HB0:=Lib.hid (show Below wf.heap.size wf (wf.alloc (.cells #[.slice A n c,.slice G m d] 28)) from below_alloc _)
 clear hr hg h
 go_enter Tryz.func15,Tryz.ntmps15
 go_wp2
 go_loopw [3] (fun i wr => ∃ j: Nat,j <= m /\ j <= 21 /\ i = .int .i64 j /\ Hid (∀ r ∈ C.take j,r.length <= 12) /\ Hid (RowV wf.heap.size 28 [.slice A n c,.slice G m d] wr) /\ Hid (Below wf.heap.size wf wr)) (fun i _ => 21 - (intOf i).toNat)
 case atStart => exact ⟨0,Nat.zero_le _,by omega,rfl,Lib.hid (fun x hx => by simp at hx),HRW,HB0⟩
 case round =>
  obtain ⟨j,hj,hj21,rfl,HF,HRr,HB⟩:=hrel
  have r0:=HRr.out.cell (j:=0) rfl
  have r1:=HRr.out.cell (j:=1) rfl
  have HP:=Lib.hid (HPl.out _ HB.out)
  by_cases hlt: j < m
  ·have d1: decide ((j: Int) < (m: Int)) = true:=decide_eq_true (by omega)
   by_cases h21: j < 21
   ·have d3: decide ((j: Int) < 21) = true:=decide_eq_true (by omega)
    obtain ⟨b,off,cr,K,nk,ck,rfl,hb2,hcr,hnk,x1,i1,z1⟩:=HP.out.lol.at_ (k:=j) (by rw [HP.out.l2]; exact hlt)
    have HCR:=Lib.hid hcr
    have HNK:=Lib.hid hnk
    clear hcr hnk i1 z1 hb2
    by_cases h12: nk <= 12
    ·have d4: decide ((nk: Int) > 12) = false:=decide_eq_false (by omega)
     go_wp2
     go_roundw
     case rel => exact ⟨j + 1,by omega,by omega,by go_num,Lib.hid (fun x hx => by
      rw [take_one HCR.out] at hx
      rcases List.mem_append.mp hx with z | z
      ·exact HF.out x z
      ·rw [List.mem_singleton.mp z,HNK.out]; exact h12),HRr,HB⟩
     case measure => simp [intOf]; omega
    ·have d4: decide ((nk: Int) > 12) = true:=decide_eq_true (by omega)
     have HF0:=Lib.hid (show r = false by
      cases r with
      | false => rfl
      | true => have:=(HR.out.mp rfl).f3 _ (List.mem_of_getElem? HCR.out); have:=HNK.out; omega)
     go_wp2
     refine bodyPost_ret (v:=.bool false) ?_ rfl ⟨by rw [HF0.out],HB.out⟩
     simp [results,Tryz.results15,go_sem]
   ·have d3: decide ((j: Int) < 21) = false:=decide_eq_false (by omega)
    have HF0:=Lib.hid (show r = false by
     cases r with
     | false => rfl
     | true => have:=(HR.out.mp rfl).f2; rw [HP.out.l2] at this; omega)
    have d5: decide ((m: Int) <= 20) = false:=decide_eq_false (by omega)
    have d5': decide (m <= 20) = false:=decide_eq_false (by omega)
    by_cases hn: n <= 20
    ·have d6: decide ((n: Int) <= 20) = true:=decide_eq_true (by omega)
     have d6': decide (n <= 20) = true:=decide_eq_true hn
     go_wp2
     refine bodyPost_ret (v:=.bool false) ?_ rfl ⟨by rw [HF0.out],HB.out⟩
     simp [results,Tryz.results15,go_sem]
    ·have d6: decide ((n: Int) <= 20) = false:=decide_eq_false (by omega)
     have d6': decide (n <= 20) = false:=decide_eq_false hn
     go_wp2
     refine bodyPost_ret (v:=.bool false) ?_ rfl ⟨by rw [HF0.out],HB.out⟩
     simp [results,Tryz.results15,go_sem]
  ·obtain rfl: j = m:=by omega
   have d1: decide ((j: Int) < (j: Int)) = false:=decide_eq_false (by omega)
   have hall: ∀ x ∈ C,x.length <= 12:=fun x hx => HF.out x (by rw [List.take_of_length_le (by rw [HP.out.l2]; exact Nat.le_refl _)]; exact hx)
   by_cases hn: n <= 20
   ·have d6: decide ((n: Int) <= 20) = true:=decide_eq_true (by omega)
    have d6': decide (n <= 20) = true:=decide_eq_true hn
    by_cases hm: j <= 20
    ·have d5: decide ((j: Int) <= 20) = true:=decide_eq_true (by omega)
     have d5': decide (j <= 20) = true:=decide_eq_true hm
     have HF0:=Lib.hid (show r = true from HR.out.mpr ⟨by rw [HP.out.l1]; exact hn,by rw [HP.out.l2]; exact hm,hall⟩)
     clear hall
     go_wp2
     refine bodyPost_ret (v:=.bool true) ?_ rfl ⟨by rw [HF0.out],HB.out⟩
     simp [results,Tryz.results15,go_sem]
    ·have d5: decide ((j: Int) <= 20) = false:=decide_eq_false (by omega)
     have d5': decide (j <= 20) = false:=decide_eq_false hm
     have HF0:=Lib.hid (show r = false by
      cases r with
      | false => rfl
      | true => have:=(HR.out.mp rfl).f2; rw [HP.out.l2] at this; omega)
     clear hall
     go_wp2
     refine bodyPost_ret (v:=.bool false) ?_ rfl ⟨by rw [HF0.out],HB.out⟩
     simp [results,Tryz.results15,go_sem]
   ·have d6: decide ((n: Int) <= 20) = false:=decide_eq_false (by omega)
    have d6': decide (n <= 20) = false:=decide_eq_false hn
    have HF0:=Lib.hid (show r = false by
     cases r with
     | false => rfl
     | true => have:=(HR.out.mp rfl).f1; rw [HP.out.l1] at this; omega)
    clear hall
    go_wp2
    refine bodyPost_ret (v:=.bool false) ?_ rfl ⟨by rw [HF0.out],HB.out⟩
    simp [results,Tryz.results15,go_sem]
end Go.Proofs.YtlfekmbalgkmeaaGreatDoor
