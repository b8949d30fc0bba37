import Derived.Test.YtfpnkcpjhbkgnaaGreatDoorZStealStep
import Derived.Shelf.Abstract
import Derived.Test.YtfpnkcpjhbkgnaaGreatDoorZM16
import Derived.Test.YtfpnkcpjhbkgnaaGreatDoorZM21
set_option linter.unusedSimpArgs false
set_option linter.unusedVariables false
set_option maxRecDepth 100000
set_option maxHeartbeats 16000000
namespace Go.Proofs.YtfpnkcpjhbkgnaaGreatDoor
open Go Go.RowKit
section
variable {base m: Nat} {g: Gng} {L: List Int} {ad: GAd}
theorem vis_clo (v: Value) (T B: Int) (w: World): Calls Tryz.prog 108 #[.agg #[v,.int .i64 T,.int .i64 B]] w fun e w' => e = .returned (.bool (decide (T < B))) /\ Below w.heap.size w w':=by
 go_enter Tryz.func108,Tryz.ntmps108
 go_wp2_with fail
 all_goals
  go_ret
  exact ⟨rfl,below_alloc _⟩
theorem idxD_any (w: World) (h: IsGng w base m g L ad) (hm: m <= 8) :
  Calls Tryz.prog 140 #[.slice (some ⟨ad.gD,0,none⟩) m ad.cD,.func (.func 108) #[] #[]] w fun e w' => ∃ r: Int,e = .returned (.int .i64 r) /\ (0 <= r ↔ visG m g) /\ Below w.heap.size w w':=by
 have H:=Lib.hid h
 clear h
 go_enter Tryz.func140,Tryz.ntmps140
 go_wp2
 go_loopw [8] (fun v wr => ∃ k: Nat,k <= m /\ v = .int .i64 k /\ Hid (Below w.heap.size w wr) /\ Hid (∀ j,j < k -> ¬ g.T j < g.B j)) (fun v _ => m - (intOf v).toNat)
 case atStart => exact ⟨0,Nat.zero_le _,rfl,Lib.hid (Below.refl _ _),Lib.hid (fun j hj => absurd hj (Nat.not_lt_zero _))⟩
 case round =>
  obtain ⟨k,hk,rfl,HI,HF⟩:=hrel
  by_cases hlt: k < m
  ·have G:=H.out.below HI.out
   have c0:=G.dq hlt (i:=0) rfl
   have c1:=G.dq hlt (i:=1) rfl
   have c2:=G.dq hlt (i:=2) rfl
   simp only [Nat.add_zero] at c0
   have e3: k * 3 = 3 * k:=Nat.mul_comm _ _
   have CV:=Lib.hid (vis_clo (ad.Rv k) (g.T k) (g.B k) wr)
   clear G
   by_cases hq: g.T k < g.B k
   ·rw [decide_eq_true hq] at CV
    go_wp2_with fail
    refine CV.out.mono ?_
    rintro e w' ⟨rfl,hb'⟩
    have HB:=Lib.hid hb'
    clear hb' CV
    go_wp2
    go_ret
    exact ⟨_,rfl,⟨fun _ => ⟨k,hlt,hq⟩,fun _ => by omega⟩,HI.out.trans (HB.out.mono HI.out.size)⟩
   ·rw [decide_eq_false hq] at CV
    go_wp2_with fail
    refine CV.out.mono ?_
    rintro e w' ⟨rfl,hb'⟩
    have HB:=Lib.hid hb'
    clear hb' CV
    go_wp2_with fail
    go_roundw
    case rel => exact ⟨k + 1,by omega,by go_num,Lib.hid (HI.out.trans (HB.out.mono HI.out.size)),Lib.hid (fun j hj => by
     by_cases e: j = k
     ·rw [e]; omega
     ·have:=HF.out j (by omega); omega)⟩
    case measure => simp [intOf]; omega
  ·have e: k = m:=by omega
   subst e
   go_wp2
   go_ret
   exact ⟨_,rfl,⟨fun h => absurd h (by decide),fun ⟨j,hj,hv⟩ => absurd hv (by have:=HF.out j hj; omega)⟩,HI.out⟩
theorem hasD_any (w: World) (h: IsGng w base m g L ad) (hm: m <= 8) :
  Calls Tryz.prog 107 #[.slice (some ⟨ad.gD,0,none⟩) m ad.cD,.func (.func 108) #[] #[]] w fun e w' => e = .returned (.bool (decide (visG m g))) /\ Below w.heap.size w w':=by
 have CI:=Lib.hid (idxD_any w h hm)
 obtain ⟨vs,hvs⟩: ∃ vs,vs = decide (visG m g):=⟨_,rfl⟩
 rw [<- hvs]
 have HVS:=Lib.hid hvs
 clear h hvs
 go_enter Tryz.func107,Tryz.ntmps107
 go_wp2_with fail
 refine CI.out.mono ?_
 rintro e w1 ⟨r,rfl,hr,hb⟩
 have HB:=Lib.hid hb
 have HR:=Lib.hid hr
 clear hr hb CI
 by_cases h0: 0 <= r
 ·have d1: decide (0 <= r) = true:=decide_eq_true h0
  obtain rfl: vs = true:=by rw [HVS.out]; exact decide_eq_true (HR.out.mp h0)
  go_wp2
  go_ret
  exact ⟨rfl,HB.out⟩
 ·have d1: decide (0 <= r) = false:=decide_eq_false h0
  obtain rfl: vs = false:=by rw [HVS.out]; exact decide_eq_false fun q => h0 (HR.out.mpr q)
  go_wp2
  go_ret
  exact ⟨rfl,HB.out⟩
def wantK (m: Nat) (g: Gng) (k: Nat): List Nat:=(List.range k).filter fun c => decide (g.O.getD c 0 = -1 /\ ((g.tk c).at_ ≠ 0 \/ visG m g))
theorem wantK_succ (m: Nat) (g: Gng) (k: Nat): wantK m g (k + 1) = if g.O.getD k 0 = -1 /\ ((g.tk k).at_ ≠ 0 \/ visG m g) then wantK m g k ++ [k] else wantK m g k:=by
 unfold wantK
 rw [List.range_succ,List.filter_append]
 by_cases h: g.O.getD k 0 = -1 /\ ((g.tk k).at_ ≠ 0 \/ visG m g)
 ·rw [if_pos h,List.filter_cons,if_pos (decide_eq_true h)]; rfl
 ·rw [if_neg h,List.filter_cons,if_neg (by rw [decide_eq_false h]; decide)]; exact List.append_nil _
theorem wants_any (w: World) (h: IsGng w base m g L ad) (hm: m <= 8) :
  Calls Tryz.prog 63 #[.agg #[.slice (some ⟨ad.gO,0,none⟩) m ad.cO,ad.vL,.slice (some ⟨ad.gD,0,none⟩) m ad.cD,.slice (some ⟨ad.gT,0,none⟩) m ad.cT,.slice (some ⟨ad.gF,0,none⟩) m ad.cF]] w (GotOwn (nums (wantsG m g)) w):=by
 obtain ⟨w0,hw0⟩: ∃ w0,w0 = w.alloc (.cells #[.slice (some ⟨ad.gO,0,none⟩) m ad.cO,ad.vL,.slice (some ⟨ad.gD,0,none⟩) m ad.cD,.slice (some ⟨ad.gT,0,none⟩) m ad.cT,.slice (some ⟨ad.gF,0,none⟩) m ad.cF] 41):=⟨_,rfl⟩
 have HB0: Hid (Below w.heap.size w w0):=Lib.hid (by rw [hw0]; exact below_alloc _)
 have HR0: Hid (RowV w.heap.size 41 (gangC m ad) w0):=Lib.hid (by rw [hw0]; exact RowV.new w _ (gangC m ad))
 have HG0:=Lib.hid (h.below HB0.out)
 have HW0:=Lib.hid hw0
 have CH:=Lib.hid (hasD_any w0 HG0.out hm)
 obtain ⟨vs,hvs⟩: ∃ vs,vs = decide (visG m g):=⟨_,rfl⟩
 rw [<- hvs] at CH
 have HVS:=Lib.hid hvs
 clear h hw0 hvs
 go_enter Tryz.func63,Tryz.ntmps63
 go_wp2_with fail
 rw [<- HW0.out]
 refine CH.out.mono ?_
 rintro e w1 ⟨rfl,hb⟩
 have HB1:=Lib.hid (HB0.out.trans (hb.mono HB0.out.size))
 have HR1:=Lib.hid (HR0.out.below hb HR0.out.lt)
 have HG1:=Lib.hid (HG0.out.below hb)
 clear hb CH HB0 HR0 HG0 HW0
 have r0: w1.cell? ⟨w.heap.size,0,none⟩ = some (.slice (some ⟨ad.gO,0,none⟩) m ad.cO):=HR1.out.cell rfl
 go_wp2_with fail
 clear r0
 go_loopw [4,14] (fun v i wr => ∃ (k q: Nat) (A1: Option Addr) (c1: Nat),k <= m /\ q <= k /\ i = .int .i64 k /\ v = .slice A1 q c1 /\ Hid (q = (nums (wantK m g k)).length) /\ Hid (OwnI wr w1.heap.size v (nums (wantK m g k))) /\ Hid (Below w1.heap.size w1 wr)) (fun _ i _ => m - (intOf i).toNat)
 case atStart => exact ⟨0,0,none,0,Nat.zero_le _,Nat.le_refl _,rfl,rfl,Lib.hid rfl,Lib.hid ⟨rfl,.inl ⟨rfl,rfl⟩⟩,Lib.hid (Below.refl _ _)⟩
 case round =>
  obtain ⟨k,q,A1,c1,hk,hqk,rfl,rfl,HQ,HO,HB⟩:=hrel
  by_cases hlt: k < m
  ·have HR:=Lib.hid (HR1.out.below HB.out HR1.out.lt)
   have HG:=Lib.hid (HG1.out.below HB.out)
   have HSZ:=Lib.hid HB.out.size
   have r0: wr.cell? ⟨w.heap.size,0,none⟩ = some (.slice (some ⟨ad.gO,0,none⟩) m ad.cO):=HR.out.cell rfl
   have r3: wr.cell? ⟨w.heap.size,3,none⟩ = some (.slice (some ⟨ad.gT,0,none⟩) m ad.cT):=HR.out.cell rfl
   have o0:=HG.out.onc hlt
   have t1:=HG.out.tk hlt (i:=1) rfl
   have hn: ¬ ((m: Int) <= (k: Int)):=by omega
   have e6: k * 6 = 6 * k:=Nat.mul_comm _ _
   obtain ⟨x,hx⟩: ∃ x,x = g.O.getD k 0:=⟨_,rfl⟩
   obtain ⟨y,hy⟩: ∃ y,y = (g.tk k).at_:=⟨_,rfl⟩
   rw [<- hx] at o0
   have HS:=Lib.hid (wantK_succ m g k)
   have t1': wr.cell? ⟨ad.gT,6 * k + 1,none⟩ = some (.int .i64 y):=by rw [hy]; exact t1
   clear t1
   have HX:=Lib.hid hx
   have HY:=Lib.hid hy
   by_cases hr: g.O.getD k 0 = -1 /\ ((g.tk k).at_ ≠ 0 \/ visG m g)
   ·have HN: Hid (nums (wantK m g (k + 1)) = nums (wantK m g k) ++ [(k: Int)]):=Lib.hid (by rw [HS.out,if_pos hr,nums_snoc])
    have d1: (x == -1) = true:=by rw [hx,hr.1]; rfl
    by_cases hvis: visG m g
    ·obtain rfl: vs = true:=by rw [HVS.out]; exact decide_eq_true hvis
     clear HS hr hx hy
     go_wp2_with (at_builtin; refine wpList_push rfl _ _ rfl wr w1.heap.size _ (nums (wantK m g k)) (k: Int) q HQ.out.symm (by omega) HO.out HSZ.out rfl rfl ?_; intro A2 c2 w3 HO3 HB3; (have HO3':=Lib.hid HO3); (have HB3':=Lib.hid HB3); clear HO3 HB3)
     go_roundw
     case rel => exact ⟨k + 1,q + 1,A2,c2,by omega,by omega,by go_num,rfl,Lib.hid (by rw [HN.out,List.length_append,<- HQ.out]; rfl),Lib.hid (by rw [HN.out]; exact HO3'.out),Lib.hid (HB.out.trans HB3'.out)⟩
     case measure => simp [intOf]; omega
    ·obtain rfl: vs = false:=by rw [HVS.out]; exact decide_eq_false hvis
     have d2: (y != 0) = true:=by rw [hy]; simpa using hr.2.resolve_right hvis
     clear HS hr hx hy
     go_wp2_with (at_builtin; refine wpList_push rfl _ _ rfl wr w1.heap.size _ (nums (wantK m g k)) (k: Int) q HQ.out.symm (by omega) HO.out HSZ.out rfl rfl ?_; intro A2 c2 w3 HO3 HB3; (have HO3':=Lib.hid HO3); (have HB3':=Lib.hid HB3); clear HO3 HB3)
     go_roundw
     case rel => exact ⟨k + 1,q + 1,A2,c2,by omega,by omega,by go_num,rfl,Lib.hid (by rw [HN.out,List.length_append,<- HQ.out]; rfl),Lib.hid (by rw [HN.out]; exact HO3'.out),Lib.hid (HB.out.trans HB3'.out)⟩
     case measure => simp [intOf]; omega
   ·have HN: Hid (nums (wantK m g (k + 1)) = nums (wantK m g k)):=Lib.hid (by rw [HS.out,if_neg hr])
    by_cases hid: x = -1
    ·have d1: (x == -1) = true:=by rw [hid]; rfl
     have hnv: ¬ visG m g:=fun q => hr ⟨by rw [<- hx]; exact hid,.inr q⟩
     obtain rfl: vs = false:=by rw [HVS.out]; exact decide_eq_false hnv
     have d2: (y != 0) = false:=by
      have: y = 0:=Classical.byContradiction fun q => hr ⟨by rw [<- hx]; exact hid,.inl (by rw [<- hy]; exact q)⟩
      rw [this]; rfl
     clear HS hr hx hy
     go_wp2_with fail
     go_roundw
     case rel => exact ⟨k + 1,q,A1,c1,by omega,by omega,by go_num,rfl,Lib.hid (by rw [HN.out,HQ.out]),Lib.hid (by rw [HN.out]; exact HO.out),HB⟩
     case measure => simp [intOf]; omega
    ·have d1: (x == -1) = false:=by simpa using hid
     clear HS hr hx hy
     go_wp2_with fail
     go_roundw
     case rel => exact ⟨k + 1,q,A1,c1,by omega,by omega,by go_num,rfl,Lib.hid (by rw [HN.out,HQ.out]),Lib.hid (by rw [HN.out]; exact HO.out),HB⟩
     case measure => simp [intOf]; omega
  ·obtain rfl: m = k:=by omega
   go_wp2
   go_ret
   exact ⟨A1,c1,by rw [show wantsG m g = wantK m g m from rfl,<- HQ.out]; rfl,by rw [show wantsG m g = wantK m g m from rfl,<- HQ.out]; exact HO.out.down HB1.out.size,HB1.out.trans (HB.out.mono HB1.out.size)⟩
end
theorem above_clo (z last: Int) (gb: Nat) (w: World) (hb: RowV gb 3 [.int .i64 last] w): Calls Tryz.prog 120 #[.int .i64 z,.pointer (some ⟨gb,0,none⟩)] w fun e w' => e = .returned (.bool (decide (last < z))) /\ w' = w:=by
 have h0:=hb.cell (j:=0) rfl
 clear hb
 go_enter Tryz.func120,Tryz.ntmps120
 go_wp2_with fail
 all_goals
  go_ret
  exact ⟨rfl,rfl⟩
def IdxAb (zs: List Int) (last r: Int): Prop:=(∃ (j: Nat) (z: Int),r = j /\ zs[j]? = some z /\ last < z /\ ∀ (i: Nat) (y: Int),i < j -> zs[i]? = some y -> y <= last) \/ (r = -1 /\ ∀ (i: Nat) (y: Int),zs[i]? = some y -> y <= last)
theorem idxAb_any (A: Option Addr) (c n: Nat) (zs: List Int) (last: Int) (gb: Nat) (w: World) (hn: zs.length = n) (hl: n <= 1000) (hI: Ints w w.heap.size A zs) (hb: RowV gb 3 [.int .i64 last] w) :
  Calls Tryz.prog 79 #[.slice A n c,.func (.func 120) #[] #[.pointer (some ⟨gb,0,none⟩)]] w fun e w' =>
   ∃ r: Int,e = .returned (.int .i64 r) /\ IdxAb zs last r /\ w' = w:=by
 have HI:=Lib.hid hI
 have HN:=Lib.hid hn
 have HB:=Lib.hid hb
 clear hI hn hb
 go_enter Tryz.func79,Tryz.ntmps79
 go_wp2
 go_loopw [8] (fun v wr => ∃ k: Nat,k <= n /\ v = .int .i64 k /\ w = wr /\ Hid (∀ (i: Nat) (y: Int),i < k -> zs[i]? = some y -> y <= last)) (fun v _ => n - (intOf v).toNat)
 case atStart => exact ⟨0,Nat.zero_le _,rfl,rfl,Lib.hid (fun i y hi => absurd hi (Nat.not_lt_zero _))⟩
 case round =>
  obtain ⟨k,hk,rfl,rfl,HF⟩:=hrel
  by_cases hlt: k < n
  ·obtain ⟨bb,off,z,hA0,hbb,hx,hcc⟩:=HI.out.at_ (k:=k) (by rw [HN.out]; exact hlt)
   subst hA0
   have HX:=Lib.hid hx
   have CV:=Lib.hid (above_clo z last gb w HB.out)
   clear hx
   by_cases hq: last < z
   ·rw [decide_eq_true hq] at CV
    go_wp2_with fail
    refine CV.out.mono ?_
    rintro e w' ⟨rfl,rfl⟩
    clear CV
    go_wp2
    go_ret
    exact ⟨_,rfl,.inl ⟨k,z,rfl,HX.out,hq,HF.out⟩,by first | rfl | trivial⟩
   ·rw [decide_eq_false hq] at CV
    go_wp2_with fail
    refine CV.out.mono ?_
    rintro e w' ⟨rfl,rfl⟩
    clear CV
    go_wp2_with fail
    go_roundw
    case rel => exact ⟨k + 1,by omega,by go_num,by first | rfl | trivial,Lib.hid (fun i y hi hy => by
     by_cases e: i = k
     ·subst e
      have:=HX.out.symm.trans hy
      injection this with this
      omega
     ·exact HF.out i y (by omega) hy)⟩
    case measure => simp [intOf]; omega
  ·have e: k = n:=by omega
   subst e
   go_wp2
   go_ret
   exact ⟨_,rfl,.inr ⟨rfl,fun i y hy => HF.out i y (by have:=(List.getElem?_eq_some_iff.mp hy).1; rw [HN.out] at this; exact this) hy⟩,rfl⟩
theorem above_at {l : List Nat} {last : Int} {j z : Nat} (hj : l[j]? = some z) (hz : last < (z : Int)) (hf : ∀ (i y : Nat), i < j -> l[i]? = some y -> (y : Int) <= last) : aboveG l last = z := by
  unfold aboveG
  have : l.find? (fun (c : Nat) => decide (last < (c : Int))) = some z := by
    induction l generalizing j with
    | nil => simp at hj
    | cons x r ih =>
      cases j with
      | zero =>
        have hx : x = z := by simpa using hj
        rw [hx, List.find?_cons, decide_eq_true hz]
      | succ j =>
        have h0 := hf 0 x (by omega) (by simp)
        rw [List.find?_cons, decide_eq_false (by omega)]
        exact ih (by simpa using hj) fun i y hi hy => hf (i + 1) y (by omega) (by simpa using hy)
  rw [this]; rfl
theorem above_none {l: List Nat} {last: Int} (hf: ∀ (i y: Nat),l[i]? = some y -> (y: Int) <= last): aboveG l last = l.getD 0 0:=by
 unfold aboveG
 have: l.find? (fun (c: Nat) => decide (last < (c: Int))) = none:=by
  rw [List.find?_eq_none]
  intro x hx
  obtain ⟨i,hi,he⟩:=List.getElem_of_mem hx
  have:=hf i x (by rw [List.getElem?_eq_getElem hi,he])
  rw [decide_eq_false (by omega)]; decide
 rw [this]; rfl
theorem nums_at {l: List Nat} {i z: Nat} (h: l[i]? = some z): (nums l)[i]? = some (z: Int):=by
 unfold nums
 rw [List.getElem?_map,h]; rfl
theorem nums_got {l: List Nat} {i: Nat} {z: Int} (h: (nums l)[i]? = some z): ∃ y: Nat,l[i]? = some y /\ z = y:=by
 unfold nums at h
 rw [List.getElem?_map] at h
 cases hq: l[i]? with
 | none => rw [hq] at h; cases h
 | some y => rw [hq] at h; exact ⟨y,rfl,(Option.some.inj h).symm⟩
theorem above_any (A: Option Addr) (c k: Nat) (l: List Nat) (last: Int) (w: World) (hk: l.length = k) (hl: k <= 1000) (h0: l ≠ []) (hI: Ints w w.heap.size A (nums l)) :
  Calls Tryz.prog 80 #[.slice A k c,.int .i64 last] w fun e w' => e = .returned (.int .i64 (aboveG l last: Nat)) /\ Below w.heap.size w w':=by
 obtain ⟨w0,hw0⟩: ∃ w0,w0 = w.alloc (.cells #[.int .i64 last] 3):=⟨_,rfl⟩
 have hb0: Below w.heap.size w w0:=by rw [hw0]; exact below_alloc _
 have HR:=Lib.hid (show RowV w.heap.size 3 [.int .i64 last] w0 by rw [hw0]; exact RowV.new w 3 [.int .i64 last])
 have HI:=Lib.hid ((hI.below hb0).more hb0.size)
 have CI:=Lib.hid (idxAb_any A c k (nums l) last w.heap.size w0 (by rw [nums_length,hk]) hl HI.out HR.out)
 have HB0:=Lib.hid hb0
 have HW:=Lib.hid hw0
 have HK:=Lib.hid hk
 obtain ⟨v,hv⟩: ∃ v,v = aboveG l last:=⟨_,rfl⟩
 rw [<- hv]
 have HV:=Lib.hid hv
 have hk0: 0 < k:=by rw [<- hk]; exact List.length_pos_iff.mpr h0
 clear hI hb0 hw0 hv hk
 go_enter Tryz.func80,Tryz.ntmps80
 go_wp2_with fail
 rw [<- HW.out]
 refine CI.out.mono ?_
 rintro e w1 ⟨r,rfl,hr,rfl⟩
 clear CI
 unfold IdxAb at hr
 rcases hr with ⟨j,z,rfl,h1,h2,h3⟩ | ⟨rfl,h3⟩
 ·obtain ⟨y,hy,rfl⟩:=nums_got h1
  have hv: v = y:=HV.out.trans (above_at hy h2 fun i q hi hq => h3 i _ hi (nums_at hq))
  have hjk: j < k:=by rw [<- HK.out]; exact (List.getElem?_eq_some_iff.mp hy).1
  obtain ⟨bb,off,z,hA0,hbb,hx,hcc⟩:=HI.out.at_ (k:=j) (by rw [nums_length,HK.out]; exact hjk)
  obtain rfl: z = (v: Int):=by
   rw [nums_at hy] at hx
   rw [hv]
   exact (Option.some.inj hx).symm
  subst hA0
  have hn: ¬ ((k: Int) <= (j: Int)):=by omega
  clear h1 h2 h3 hx hy hv
  go_wp2
  go_ret
  exact ⟨rfl,HB0.out⟩
 ·have hlt: 0 < l.length:=by rw [HK.out]; exact hk0
  have hy: l[0]? = some (l.getD 0 0):=by rw [List.getD_eq_getElem?_getD,List.getElem?_eq_getElem hlt]; rfl
  have hv: v = l.getD 0 0:=HV.out.trans (above_none fun i q hq => h3 i _ (nums_at hq))
  obtain ⟨bb,off,z,hA0,hbb,hx,hcc⟩:=HI.out.at_ (k:=0) (by rw [nums_length,HK.out]; exact hk0)
  obtain rfl: z = (v: Int):=by
   rw [nums_at hy] at hx
   rw [hv]
   exact (Option.some.inj hx).symm
  subst hA0
  simp only [Nat.add_zero] at hcc
  have hn: ¬ ((k: Int) <= 0):=by omega
  have hn': ¬ k = 0:=by omega
  clear h3 hx hy hv
  go_wp2
  go_ret
  exact ⟨rfl,HB0.out⟩
section
variable {base gw m: Nat} {g: Gng} {L: List Int} {ad: GAd} {W: List Int} {E: List (Int × Int)} {WA: Option Addr} {Wn Wc: Nat} {EF: Option Addr} {Em Ed: Nat} {picks: List Int} {AP: Option Addr} {nP cP: Nat}
theorem pick_here {l: List Nat} {k: Nat} {last p: Int} (h0: l ≠ []) (hp: picks[k]? = some p): l[(max p 0).toNat % l.length]? = some (pickG l picks k last):=by
 have hk: k < picks.length:=(List.getElem?_eq_some_iff.mp hp).1
 unfold pickG
 rw [if_pos hk]
 have e: picks.getD k 0 = p:=by rw [List.getD_eq_getElem?_getD,hp]; rfl
 rw [e]
 have hl:=Nat.mod_lt (max p 0).toNat (List.length_pos_iff.mpr h0)
 rw [List.getD_eq_getElem?_getD,List.getElem?_eq_getElem hl]; rfl
theorem calm_any (w: World) (hok: GOk W.length m E L g) (h0: ∀ c,c < m -> (g.tk c).at_ = 0) (hM: May W E) (hT: DTab w) (hg: IsGrS w base WA Wn Wc EF Em Ed W E)
  (hp: picks.length = nP) (hp2: nP <= 1000) (hP: Ints w base AP picks) (h: IsWk w base gw m g L ad (.slice WA Wn Wc) (.slice EF Em Ed)) :
  Calls Tryz.prog 40 #[.pointer (some ⟨gw,0,none⟩),.slice AP nP cP] w fun e w' => e = .returned (.tuple #[.int .i64 (lenC m g picks: Nat),.int .i64 0]) /\ ∃ Rv',IsWk w' base gw m (calmG m g picks) L { ad with Rv:=Rv' } (.slice WA Wn Wc) (.slice EF Em Ed) /\ Kp [ad.gO,ad.gD,ad.gF,ad.gT] w w':=by
 have hm8: m <= 8:=by rw [<- hok.ol]; exact hok.crew.hi
 obtain ⟨s1,s2,s3,s4⟩:=calm_spec (picks:=picks) hok h0
 have HINV:=Lib.hid (fun k (hk: k <= lenC m g picks) => (CalmInv.upto hok h0 k fun j hj => s2 j (by omega)).ok)
 obtain ⟨N,hN⟩: ∃ N,N = lenC m g picks:=⟨_,rfl⟩
 have hfin: calmG m g picks = (calmS m g picks N).1:=by rw [hN]; rfl
 rw [hfin,<- hN]
 rw [hfin] at s1
 rw [<- hN] at HINV s2 s3
 have hm3: m * (m * (4 * m + 4) + 4 * m) <= 1000000:=by
  have:=calm_most hok.m1
  have h8: 8 * m * m * (m + 1) <= 8 * 8 * 8 * 9:=Nat.mul_le_mul (Nat.mul_le_mul (Nat.mul_le_mul_left 8 hm8) hm8) (by omega)
  omega
 have hN6: N <= 1000000:=by omega
 have HS1:=Lib.hid s1
 have HS2:=Lib.hid s2
 obtain ⟨vW,hvW⟩: ∃ v,v = Value.slice WA Wn Wc:=⟨_,rfl⟩
 obtain ⟨vE,hvE⟩: ∃ v,v = Value.slice EF Em Ed:=⟨_,rfl⟩
 rw [<- hvW,<- hvE] at h ⊢
 have HVW:=Lib.hid hvW
 have HVE:=Lib.hid hvE
 have HG:=Lib.hid hg
 have HT:=Lib.hid hT
 have HP:=Lib.hid hP
 have HPL:=Lib.hid hp
 have HM:=Lib.hid hM
 have H:=Lib.hid h
 have HLT:=Lib.hid h.gng.lts
 have HBS: Hid (base <= w.heap.size):=Lib.hid (by have:=h.gng.lts; omega)
 have CW:=Lib.hid (wants_any w h.gng hm8)
 have q0: w.cell? ⟨gw,0,none⟩ = some (.slice (some ⟨ad.gO,0,none⟩) m ad.cO):=h.row.cell rfl
 have q1: w.cell? ⟨gw,1,none⟩ = some ad.vL:=h.row.cell rfl
 have q2: w.cell? ⟨gw,2,none⟩ = some (.slice (some ⟨ad.gD,0,none⟩) m ad.cD):=h.row.cell rfl
 have q3: w.cell? ⟨gw,3,none⟩ = some (.slice (some ⟨ad.gT,0,none⟩) m ad.cT):=h.row.cell rfl
 have q4: w.cell? ⟨gw,4,none⟩ = some (.slice (some ⟨ad.gF,0,none⟩) m ad.cF):=h.row.cell rfl
 clear hok h0 hM hT hg hP h hvW hvE s1 s2 s3 s4 hN hfin hm3
 go_enter Tryz.func40,Tryz.ntmps40
 go_wp2_with fail
 refine CW.out.mono ?_
 rintro e w1 ⟨A1,c1,rfl,ho,hb⟩
 have HI1:=Lib.hid ho.ints
 have HB1:=Lib.hid hb
 have W1:=Lib.hid (H.out.below hb)
 clear ho hb CW q0 q1 q2 q3 q4
 go_wp2_with fail
 go_loopg [6,7,8] N (fun gk s co l wr => ∃ (k q: Nat) (R': Nat -> Value) (A: Option Addr) (c: Nat),gk + k = N /\ s = .int .i64 k /\ co = .int .i64 (calmS m g picks k).2 /\ l = .slice A q c /\ Hid (q = (nums (wantsG m (calmS m g picks k).1)).length) /\ Hid (Ints wr wr.heap.size A (nums (wantsG m (calmS m g picks k).1))) /\ Hid (IsWk wr base gw m (calmS m g picks k).1 L { ad with Rv:=R' } vW vE) /\ Hid (Kp [ad.gO,ad.gD,ad.gF,ad.gT] w wr))
 case atStart => exact ⟨0,_,ad.Rv,A1,c1,rfl,rfl,rfl,rfl,Lib.hid rfl,HI1,W1,Lib.hid (Kp.of_below HB1.out _)⟩
 case round =>
  clear HI1 HB1 W1
  obtain ⟨k,q,R',A,c,hgk,rfl,rfl,rfl,HQ,HI,HW,HK⟩:=hrel
  obtain ⟨gk',hgk'⟩: ∃ z,z = (calmS m g picks k).1:=⟨_,rfl⟩
  obtain ⟨last,hlast⟩: ∃ z,z = (calmS m g picks k).2:=⟨_,rfl⟩
  rw [<- hgk'] at HQ HI HW
  rw [<- hlast]
  have HGK:=Lib.hid hgk'
  have HLA:=Lib.hid hlast
  clear hgk' hlast
  by_cases hkN: k < N
  ·have hwne: wantsG m gk' ≠ []:=by rw [HGK.out]; exact HS2.out k hkN
   have hq0: 0 < q:=by rw [HQ.out,nums_length]; exact List.length_pos_iff.mpr hwne
   have HWN:=Lib.hid hwne
   have d0: decide (0 < q) = true:=decide_eq_true hq0
   have d0': decide ((0: Int) < (q: Int)) = true:=decide_eq_true (by omega)
   obtain ⟨cc,hcc⟩: ∃ z,z = pickG (wantsG m gk') picks k last:=⟨_,rfl⟩
   have HCC:=Lib.hid hcc
   have hq8: q <= 8:=by
    rw [HQ.out,nums_length]
    unfold wantsG
    exact Nat.le_trans (List.length_filter_le _ _) (by rw [List.length_range]; exact hm8)
   have HBW: Hid (Below base w wr):=Lib.hid (HK.out.below (fun b hb => by have:=HLT.out; simp at hb; omega) HBS.out)
   clear hwne hcc
   go_upto_if 26 with fail
   go_cut [7] from 15 to 48 (fun v wx => v = .int .i64 (cc: Nat) /\ Hid (Below wr.heap.size wr wx))
   case first =>
    by_cases hkp: k < nP
    ·have d1: decide (k < nP) = true:=decide_eq_true hkp
     have d1': decide ((k: Int) < (nP: Int)) = true:=decide_eq_true (by omega)
     obtain ⟨bb,off,p,hA0,hbb,hx,hcl⟩:=(HP.out.below HBW.out).at_ (k:=k) (by rw [HPL.out]; exact hkp)
     subst hA0
     have hpk:=pick_here (l:=wantsG m gk') (last:=last) HWN.out hx
     rw [<- HCC.out] at hpk
     have hnk: ¬ ((nP: Int) <= (k: Int)):=by omega
     have hq00: ¬ q = 0:=by omega
     by_cases hp0: p < 0
     ·have d2: decide (p < 0) = true:=decide_eq_true hp0
      have e0: (max p 0).toNat % (wantsG m gk').length = 0:=by rw [show max p 0 = 0 by omega]; rfl
      rw [e0] at hpk
      obtain ⟨b2,o2,z,hA2,_,hx2,hcl2⟩:=HI.out.at_ (k:=0) (by rw [<- HQ.out]; exact hq0)
      obtain rfl: z = (cc: Int):=by
       rw [nums_at hpk] at hx2
       exact (Option.some.inj hx2).symm
      subst hA2
      simp only [Nat.add_zero] at hcl2
      have htm0: (0: Int).tmod (q: Int) = 0:=Int.zero_tmod _
      have hnx0: ¬ ((q: Int) <= 0):=by omega
      clear hx hx2 hpk
      go_wp2_with fail
      go_meet
      case rel => exact ⟨by first | rfl | simp,Lib.hid (Below.refl _ _)⟩
     ·have d2: decide (p < 0) = false:=decide_eq_false hp0
      obtain ⟨pn,rfl⟩: ∃ pn: Nat,p = pn:=⟨p.toNat,by omega⟩
      have e0: (max (pn: Int) 0).toNat % (wantsG m gk').length = pn % q:=by
       rw [show max (pn: Int) 0 = (pn: Int) by omega,Int.toNat_natCast,HQ.out,nums_length]
      rw [e0] at hpk
      have hlt: pn % q < q:=Nat.mod_lt _ hq0
      obtain ⟨b2,o2,z,hA2,_,hx2,hcl2⟩:=HI.out.at_ (k:=pn % q) (by rw [<- HQ.out]; exact hlt)
      obtain rfl: z = (cc: Int):=by
       rw [nums_at hpk] at hx2
       exact (Option.some.inj hx2).symm
      subst hA2
      have hnx: ¬ ((q: Int) <= (pn: Int) % (q: Int)):=by omega
      clear hx hx2 hpk e0
      go_wp2_with fail
      go_meet
      case rel => exact ⟨by first | rfl | simp,Lib.hid (Below.refl _ _)⟩
    ·have d1: decide (k < nP) = false:=decide_eq_false hkp
     have d1': decide ((k: Int) < (nP: Int)) = false:=decide_eq_false (by omega)
     have hcv: cc = aboveG (wantsG m gk') last:=by
      rw [HCC.out]
      unfold pickG
      rw [if_neg (by rw [HPL.out]; exact hkp)]
     have CAb:=Lib.hid (above_any A c q (wantsG m gk') last wr (by rw [HQ.out,nums_length]) (by omega) HWN.out HI.out)
     rw [<- hcv] at CAb
     clear hcv
     go_wp2_with fail
     refine CAb.out.mono ?_
     rintro e w2 ⟨rfl,hb⟩
     have HB2:=Lib.hid hb
     clear hb CAb
     go_wp2_with fail
     go_meet
     case rel => exact ⟨rfl,HB2⟩
   case rest =>
    obtain ⟨rfl,HB2⟩:=hcut
    have hmem: cc ∈ wantsG m gk':=by rw [HCC.out]; exact pick_mem HWN.out picks k last
    obtain ⟨hcm,hidle,_⟩:=mem_wants.mp hmem
    have W2:=Lib.hid (HW.out.below HB2.out)
    have HBB:=Lib.hid (HBW.out.trans (HB2.out.mono (Nat.le_trans HBS.out HK.out.size)))
    have CS:=Lib.hid (step_any wc hcm hidle (by rw [HGK.out]; exact HINV.out k (by omega)) HM.out (Tab64.below HT.out HBB.out HG.out.tb) (HG.out.below HBB.out) (by rw [<- HVW.out,<- HVE.out]; exact W2.out))
    rw [<- HVW.out,<- HVE.out] at CS
    have HK2:=Lib.hid (HK.out.trans (Kp.of_below HB2.out _))
    have hst: stepG m gk' cc = (calmS m g picks (k + 1)).1:=by rw [HGK.out,HCC.out,HGK.out,HLA.out]; rfl
    have hsl: (cc: Int) = (calmS m g picks (k + 1)).2:=by rw [HCC.out,HGK.out,HLA.out]; rfl
    rw [hst] at CS
    have HSL:=Lib.hid hsl
    clear hmem hst hsl W2 HBB HBW HW HI HB2
    go_wp2_with fail
    refine CS.out.mono ?_
    rintro e w3 ⟨rfl,R3,hw3,hk3⟩
    have W3:=Lib.hid hw3
    have HK3:=Lib.hid (HK2.out.trans (hk3.more (by simp)))
    have CW:=Lib.hid (wants_any w3 hw3.gng hm8)
    have q0: w3.cell? ⟨gw,0,none⟩ = some (.slice (some ⟨ad.gO,0,none⟩) m ad.cO):=hw3.row.cell rfl
    have q1: w3.cell? ⟨gw,1,none⟩ = some ad.vL:=hw3.row.cell rfl
    have q2: w3.cell? ⟨gw,2,none⟩ = some (.slice (some ⟨ad.gD,0,none⟩) m ad.cD):=hw3.row.cell rfl
    have q3: w3.cell? ⟨gw,3,none⟩ = some (.slice (some ⟨ad.gT,0,none⟩) m ad.cT):=hw3.row.cell rfl
    have q4: w3.cell? ⟨gw,4,none⟩ = some (.slice (some ⟨ad.gF,0,none⟩) m ad.cF):=hw3.row.cell rfl
    clear hw3 hk3 CS HK2
    go_wp2_with fail
    refine CW.out.mono ?_
    rintro e w4 ⟨A4,c4,rfl,ho,hb⟩
    have HI4:=Lib.hid ho.ints
    have HK4:=Lib.hid (HK3.out.trans (Kp.of_below hb _))
    have W4:=Lib.hid (W3.out.below hb)
    clear ho hb CW q0 q1 q2 q3 q4 W3 HK3
    go_wp2_with fail
    go_roundg (N - (k + 1))
    case measure => omega
    case rel => exact ⟨k + 1,_,R3,A4,c4,by omega,by simp,by rw [HSL.out],rfl,Lib.hid rfl,HI4,W4,HK4⟩
  ·have hkN2: k = N:=by omega
   subst hkN2
   have hw0: wantsG m gk' = []:=by rw [HGK.out]; exact HS1.out
   have hq0: q = 0:=by rw [HQ.out,nums_length,hw0]; rfl
   subst hq0
   rw [HGK.out] at HW
   clear hw0 HI HQ
   go_wp2
   refine bodyPost_ret (results_tmp2 rfl _ _ _) rfl ?_
   exact ⟨rfl,R',HW.out,HK.out⟩
end
theorem dq_cell_info: (Tryz.prog.info? 86).map (fun i => (i.zero,i.size,i.bytes)) = some (some (.agg #[.slice none 0 0,.int .i64 0,.int .i64 0]),3,40):=by kernel_rfl
theorem tk_cell_info: (Tryz.prog.info? 70).map (fun i => (i.zero,i.size,i.bytes)) = some (some (.agg #[.bool false,.int .i64 0,.int .i64 0,.int .i64 0,.int .i64 0,.int .i64 0]),6,48):=by kernel_rfl
theorem new_row (W: World) (tl te ty: TypeId) (z: Value) (s b: Nat) (ht: Tryz.prog.underlying tl = some (.slice te)) (hinf: (Tryz.prog.info? te).map (fun i => (i.zero,i.size,i.bytes)) = some (some z,s,b)) (hz: z.cells.size = s) (hs0: 0 < s) (hb48: b <= 48)
  {base g n c: Nat} {xs: List Value} (h: W.ownsRow base te s (.slice (some ⟨g,0,none⟩) n c) n xs) (hn: 1 <= n) (hn8: n <= 1000) (h1: ∀ u ∈ xs,u.oneCell' = true) :
  ∃ g' c' w',(Builtin.append_ #[tl,tl] ty #[.slice (some ⟨W.heap.size,0,none⟩) 0 0,.slice (some ⟨g,0,none⟩) n c]).run Tryz.prog (W.alloc (.cells #[] te)) = .ok (.slice (some ⟨g',0,none⟩) n c') w' /\ w'.ownsRow W.heap.size te s (.slice (some ⟨g',0,none⟩) n c') n xs /\ Below W.heap.size W w':=by
 obtain ⟨i0,hi,hz0,hz1,hz2⟩:=info_partsS hinf
 obtain ⟨v',w',hr,ho,hb⟩:=fresh_append (P:=Tryz.prog) (W.alloc (.cells #[] te)) tl ty te i0 z s b ht hi hz0 hz1 hz2 hz hs0 W.heap.size W.heap.size (heap_alloc_new W _) (Nat.le_refl _) (by simp) (some ⟨g,0,none⟩) n c xs h.1 (fun q => by cases q)
  (fun ad e => by
   injection e with e
   subst e
   intro j u hu
   have:=rowN_cell (own_below h (below_alloc (.cells #[] te))) hu
   rw [addr_add,Nat.zero_add]
   exact this) h1 (by unfold maxLen; omega) (by have: n * b <= 1000 * 48:=Nat.mul_le_mul hn8 hb48; omega)
 rcases ho.2 with ⟨rfl,h0⟩ | ⟨g',cap,cur,rfl,rest⟩
 ·omega
 ·exact ⟨g',cap,w',hr,ho,(below_alloc _).trans (hb.mono (by simp))⟩
section
variable {base g n c: Nat} {xs: List Value}
theorem clone_dq (w: World) (h: w.ownsRow base 86 3 (.slice (some ⟨g,0,none⟩) n c) n xs) (hn: 1 <= n) (hn8: n <= 1000) (h1: ∀ u ∈ xs,u.oneCell' = true) :
  Calls Tryz.prog 106 #[.slice (some ⟨g,0,none⟩) n c] w fun e w' => ∃ g' c',e = .returned (.slice (some ⟨g',0,none⟩) n c') /\ w'.ownsRow w.heap.size 86 3 (.slice (some ⟨g',0,none⟩) n c') n xs /\ Below w.heap.size w w':=by
 obtain ⟨g',c',w1,hr,hO,hB⟩:=new_row w 38 86 38 _ 3 40 Tryz.underlying38 dq_cell_info rfl (by decide) (by decide) h hn hn8 h1
 have HO:=Lib.hid hO
 have HB:=Lib.hid hB
 clear h h1 hO hB
 have hnil:=fun W a l c => eql_nil W 38 86 a l c Tryz.underlying38
 go_enter Tryz.func106,Tryz.ntmps106
 go_wp2_with (at_builtin; refine wpList_append_plain rfl _ _ 38 _ _ rfl rfl rfl hr ?_)
 go_ret
 exact ⟨g',c',rfl,HO.out,HB.out⟩
theorem clone_tk (w: World) (h: w.ownsRow base 70 6 (.slice (some ⟨g,0,none⟩) n c) n xs) (hn: 1 <= n) (hn8: n <= 1000) (h1: ∀ u ∈ xs,u.oneCell' = true) :
  Calls Tryz.prog 105 #[.slice (some ⟨g,0,none⟩) n c] w fun e w' => ∃ g' c',e = .returned (.slice (some ⟨g',0,none⟩) n c') /\ w'.ownsRow w.heap.size 70 6 (.slice (some ⟨g',0,none⟩) n c') n xs /\ Below w.heap.size w w':=by
 obtain ⟨g',c',w1,hr,hO,hB⟩:=new_row w 39 70 39 _ 6 48 Tryz.underlying39 tk_cell_info rfl (by decide) (by decide) h hn hn8 h1
 have HO:=Lib.hid hO
 have HB:=Lib.hid hB
 clear h h1 hO hB
 have hnil:=fun W a l c => eql_nil W 39 70 a l c Tryz.underlying39
 go_enter Tryz.func105,Tryz.ntmps105
 go_wp2_with (at_builtin; refine wpList_append_plain rfl _ _ 39 _ _ rfl rfl rfl hr ?_)
 go_ret
 exact ⟨g',c',rfl,HO.out,HB.out⟩
end
end Go.Proofs.YtfpnkcpjhbkgnaaGreatDoor
