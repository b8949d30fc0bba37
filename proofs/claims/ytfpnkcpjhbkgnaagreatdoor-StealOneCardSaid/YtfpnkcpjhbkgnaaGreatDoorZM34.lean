import Derived.Test.YtfpnkcpjhbkgnaaGreatDoorZM14
import Derived.Test.YtfpnkcpjhbkgnaaGreatDoorZM4
import Derived.Test.YtfpnkcpjhbkgnaaGreatDoorZM15
import Derived.Test.YtfpnkcpjhbkgnaaGreatDoorZM8
import Derived.Test.YtfpnkcpjhbkgnaaGreatDoorZM32
import Derived.Lib.SliceRun
import Derived.Test.YtfpnkcpjhbkgnaaGreatDoorZM22
import Derived.Test.YtfpnkcpjhbkgnaaGreatDoorZM6
import Derived.Test.YtfpnkcpjhbkgnaaGreatDoorZStealStep
import Derived.Lib.Hide
import Derived.Shelf.Abstract
import Derived.Test.YtfpnkcpjhbkgnaaGreatDoorZM33
set_option linter.unusedSimpArgs false
set_option linter.unusedVariables false
set_option maxRecDepth 100000
set_option maxHeartbeats 8000000
namespace Go.Proofs.YtfpnkcpjhbkgnaaGreatDoor
theorem nums_filter (p: Int -> Bool) (l: List Nat): (nums l).filter p = nums (l.filter fun y => p (y: Int)):=by
 unfold nums
 rw [List.filter_map]
 rfl
theorem mem_nums_nat {l: List Nat} {y: Nat}: (y: Int) ∈ nums l ↔ y ∈ l:=by
 unfold nums
 rw [List.mem_map]
 exact ⟨fun ⟨z,hz,e⟩ => (Int.ofNat.inj e) ▸ hz,fun h => ⟨y,h,rfl⟩⟩
theorem succsL_nums (n: Nat) (E: List (Int × Int)) (x: Int): succsL n E x = nums (succU n E x):=by
 unfold succsL succU nums
 rw [List.filter_map]
 rfl
def rdyK (n: Nat) (E: List (Int × Int)) (O L: List Int) (D: List Nat): List Nat:=(readyU n E (onT O L) (leftT O L)).filter fun y => decide (y ∉ D)
section
variable {n m: Nat} {E: List (Int × Int)} {O L: List Int} {D: List Nat} {k: Nat} {g: Gng}
theorem mine_yes (h: O.getD k 0 ≠ -1 /\ leftC L (O.getD k 0) = 1): (succsL n E (O.getD k 0)).filter (fun z => !(!decide (z ∈ nums (rdyK n E O L D)))) = nums (mineG n E O L D k):=by
 rw [succsL_nums,nums_filter]
 unfold mineG
 rw [if_pos h]
 congr 1
 refine List.filter_congr fun y _ => ?_
 rw [Bool.not_not]
 exact decide_eq_decide.mpr (by
  rw [mem_nums_nat]
  unfold rdyK
  rw [List.mem_filter,decide_eq_true_iff])
theorem mine_no (h: ¬ (O.getD k 0 ≠ -1 /\ leftC L (O.getD k 0) = 1)): mineG n E O L D k = []:=if_neg h
theorem rdy_next: (nums (rdyK n E O L D)).filter (fun z => !decide (z ∈ nums (mineG n E O L D k))) = nums (rdyK n E O L (D ++ mineG n E O L D k)):=by
 rw [nums_filter]
 congr 1
 unfold rdyK
 rw [List.filter_filter]
 refine List.filter_congr fun y _ => ?_
 rw [Bool.eq_iff_iff,Bool.and_eq_true,Bool.not_eq_true',decide_eq_false_iff_not,decide_eq_true_iff,decide_eq_true_iff,mem_nums_nat,List.mem_append]
 exact ⟨fun ⟨a,b⟩ q => q.elim b a,fun q => ⟨fun a => q (.inr a),fun a => q (.inl a)⟩⟩
theorem rdy_zero: rdyK n E O L [] = readyU n E (onT O L) (leftT O L):=by
 unfold rdyK
 exact List.filter_eq_self.mpr fun y _ => by simp
theorem rdy_len (h: n <= 64): (nums (rdyK n E O L D)).length <= 64:=by
 unfold nums rdyK readyU
 rw [List.length_map]
 refine Nat.le_trans (List.length_filter_le _ _) (Nat.le_trans (List.length_filter_le _ _) ?_)
 rw [List.length_range]; exact h
theorem mine_len (h: n <= 64): (nums (mineG n E O L D k)).length <= 64:=by
 unfold nums
 rw [List.length_map]
 unfold mineG
 split
 ·refine Nat.le_trans (List.length_filter_le _ _) ?_
  unfold succU
  refine Nat.le_trans (List.length_filter_le _ _) ?_
  rw [List.length_range]; exact h
 ·exact Nat.zero_le _
theorem succs_len (h: n <= 64) (x: Int): (succsL n E x).length <= 64:=by
 rw [succsL_nums]
 unfold nums succU
 rw [List.length_map]
 refine Nat.le_trans (List.length_filter_le _ _) ?_
 rw [List.length_range]; exact h
theorem pushesG_snoc (i: Nat): ∀ (l: List Nat) (g: Gng) (x: Nat),pushesG g i (l ++ [x]) = pushG (pushesG g i l) i (x: Int)
 | [],g,x => rfl
 | y :: r,g,x => pushesG_snoc i r _ x
theorem pushesG_take (g: Gng) (i: Nat) (l: List Nat) {k x: Nat} (h: l[k]? = some x): pushesG g i (l.take (k + 1)) = pushG (pushesG g i (l.take k)) i (x: Int):=by
 rw [List.take_add_one,h]
 exact pushesG_snoc i _ g x
theorem tick_room (h: GOk n m E L g) (hF: Fits n E) (h0: ∀ c,c < m -> (g.tk c).at_ = 0) {k: Nat} (hk: k < m) {i x: Nat} (hx: (mineG n E g.O L (tickK n E L g k).2 k)[i]? = some x) :
  ((pushesG (tickK n E L g k).1 k ((mineG n E g.O L (tickK n E L g k).2 k).take i)).R k).length = 64 /\
  pushE 64 ((pushesG (tickK n E L g k).1 k ((mineG n E g.O L (tickK n E L g k).2 k).take i)).T k) ((pushesG (tickK n E L g k).1 k ((mineG n E g.O L (tickK n E L g k).2 k).take i)).B k) = 0:=by
 obtain ⟨l,hl⟩: ∃ l,l = mineG n E g.O L (tickK n E L g k).2 k:=⟨_,rfl⟩
 rw [<- hl] at hx ⊢
 have hil: i < l.length:=(List.getElem?_eq_some_iff.1 hx).1
 have hxe: l[i] = x:=(List.getElem?_eq_some_iff.1 hx).2
 have hnd: l.Nodup:=by
  rw [hl]
  unfold mineG
  split
  ·exact (List.nodup_range.filter _).filter _
  ·exact List.nodup_nil
 have hin: ∀ y ∈ l,y < n /\ ReadyC E (onT g.O L) (leftT g.O L) y /\ ¬ OverC E L (y: Int) /\ y ∉ (tickK n E L g k).2:=fun y hy => by
  rw [hl] at hy
  obtain ⟨a,b,d,e⟩:=mem_mine.mp hy
  exact ⟨b.1,d,fun q => q _ b.2 rfl (by rw [a.2]; decide),e⟩
 have hxl: x ∈ l:=hxe ▸ List.getElem_mem hil
 have I:=TkInv.pushes (i:=k) hk h.n64 (tick_upto h hF h0 k (by omega)) (fun j hj => (h.dq j hj).top) (hnd.sublist (List.take_sublist i l)) (fun y hy => hin y (List.mem_of_mem_take hy))
 have hno: x ∉ (tickK n E L g k).2 ++ l.take i:=fun q => by
  rw [List.mem_append] at q
  rcases q with q | q
  ·exact (hin x hxl).2.2.2 q
  ·obtain ⟨j,hj,he⟩:=List.getElem_of_mem q
   rw [List.length_take] at hj
   rw [List.getElem_take] at he
   have h2:=List.pairwise_iff_getElem.mp hnd j i (by omega) hil (by omega)
   exact h2 (by rw [he,hxe])
 have hr:=I.room h.n64 (hin x hxl).1 (hin x hxl).2.2.1 hno hk
 have hT: 0 <= (pushesG (tickK n E L g k).1 k (l.take i)).T k:=by rw [I.same.1]; exact (h.dq k hk).top
 have hlo:=I.lo k hk
 refine ⟨I.rl k hk,?_⟩
 unfold pushE ChkQ
 rw [if_neg (fun q => q ⟨by decide,by omega,by omega,by omega,by omega⟩),if_neg (by omega)]
theorem done_iff (hc: CrewOk n E O L) (hk: k < O.length): O.getD k 0 ∈ nums (doneT O L) ↔ O.getD k 0 ≠ -1 /\ leftC L (O.getD k 0) = 1:=by
 have hm: O.getD k 0 ∈ O:=by
  rw [List.getD_eq_getElem?_getD,List.getElem?_eq_getElem hk]
  exact List.getElem_mem hk
 obtain ⟨x,hx⟩: ∃ x,x = O.getD k 0:=⟨_,rfl⟩
 rw [<- hx] at hm ⊢
 constructor
 ·intro h
  unfold nums at h
  obtain ⟨y,hy,e⟩:=List.mem_map.mp h
  have e2: x = (y: Int):=e.symm
  subst e2
  exact ⟨by omega,(mem_doneT.mp hy).2.2⟩
 ·rintro ⟨h1,h2⟩
  have h3:=(hc.on x hm).resolve_left h1
  obtain ⟨y,rfl⟩: ∃ y: Nat,x = y:=⟨x.toNat,by omega⟩
  rw [mem_nums_nat,mem_doneT]
  exact ⟨by rw [hc.ln]; omega,hm,h2⟩
theorem done_len: (nums (doneT O L)).length <= L.length:=by
 unfold nums doneT
 rw [List.length_map]
 refine Nat.le_trans (List.length_filter_le _ _) ?_
 rw [List.length_range]; exact Nat.le_refl _
end
end Go.Proofs.YtfpnkcpjhbkgnaaGreatDoor
namespace Go.Proofs.YtfpnkcpjhbkgnaaGreatDoor
open Go Go.RowKit
theorem set_rowO (s: Nat) (w: World) (hs: s < 18446744073709551616) (hT: Tab64 w) :
  Calls Tryz.prog 104 #[.int .u64 s] w (GotOwn (nums (bitsL s)) w):=by
 have HS:=Lib.hid hs
 have HT:=Lib.hid hT
 have HLEN:=Lib.hid (bitsL_length s)
 clear hs hT
 go_enter Tryz.func104,Tryz.ntmps104
 go_wp2
 go_loopw [0,3] (fun sv v wr => ∃ (t k: Nat) (A: Option Addr) (c: Nat) (l: List Nat),sv = .int .u64 t /\ t < 18446744073709551616 /\ k <= 64 /\ v = .slice A k c /\ Hid (l.length = k) /\ Hid (l ++ bitsL t = bitsL s) /\ Hid (OwnI wr w.heap.size (.slice A k c) (nums l)) /\ Hid (Below w.heap.size w wr)) (fun sv _ _ => (intOf sv).toNat)
 case atStart => exact ⟨s,0,none,0,[],rfl,HS.out,by omega,rfl,Lib.hid rfl,Lib.hid rfl,Lib.hid (ownI_nil _ _),Lib.hid (Below.refl _ _)⟩
 case round =>
  obtain ⟨t,k,A,c,l,rfl,ht,hk,rfl,HL,HE,HO,HB⟩:=hrel
  by_cases h0: t = 0
  ·subst h0
   have he: l = bitsL s:=by have:=HE.out; rwa [bitsL_zero,List.append_nil] at this
   have HE2:=Lib.hid he
   clear he
   go_wp2
   go_ret
   obtain ⟨A2,c2,h1,h2⟩:=HO.out.slice
   exact ⟨A2,c2,by rw [<- HE2.out,<- h1]; rfl,by rw [<- HE2.out,<- h1]; exact HO.out,HB.out⟩
  ·have HST:=Lib.hid (bitsL_step h0 ht)
   have hne: ((t: Int) != 0) = true:=by simpa using h0
   have C:=Lib.hid (tz64_any t wr ht h0 (HT.out.via HB.out))
   have hsub: IntKind.u64.wrap ((t: Int) - 1) = ((t - 1: Nat): Int):=by rw [IntKind.wrap_u64]; omega
   have hand:=bits_and_u64_nat t (t - 1) ht (by omega)
   have hlt:=and_pred_lt h0
   obtain ⟨z,hz⟩: ∃ z,z = t &&& (t - 1):=⟨_,rfl⟩
   obtain ⟨y,hy⟩: ∃ y,y = Lib.ctz 64 t:=⟨_,rfl⟩
   rw [<- hz] at hand hlt HST
   rw [<- hy] at C HST
   have hk2: k < 64:=by
    have h1:=HE.out
    rw [HST.out] at h1
    have h2:=congrArg List.length h1
    rw [List.length_append,HL.out] at h2
    simp only [List.length_cons] at h2
    have:=HLEN.out
    omega
   have hsz:=HB.out.size
   clear hz hy h0
   go_wp2_with (first
    | (go_at_call 139; refine C.out.mono ?_; rintro e w' ⟨rfl,rfl⟩)
    | (at_builtin; refine wpList_push rfl _ _ rfl wr w.heap.size _ (nums l) (y: Int) k (by rw [nums_length]; exact HL.out) (by omega) HO.out hsz rfl rfl ?_; intro A4 c4 w4 HO4 HB4; (have HO4':=Lib.hid HO4); (have HB4':=Lib.hid HB4); clear HO4 HB4))
   go_roundw
   case rel => exact ⟨z,k + 1,A4,c4,l ++ [y],rfl,by omega,by omega,rfl,Lib.hid (by rw [List.length_append,HL.out]; rfl),Lib.hid (by rw [List.append_assoc]; exact (by rw [<- HST.out]; exact HE.out: l ++ (y :: bitsL z) = bitsL s)),Lib.hid (by rw [nums_snoc]; exact HO4'.out),Lib.hid (HB.out.trans HB4'.out)⟩
   case measure => simp [intOf]; omega
section
variable {A: Option Addr} {n c: Nat} {F: Option Addr} {m d: Nat} {W: List Int} {E: List (Int × Int)}
theorem succs_own (w: World) (x: Int) (hM: May W E) (hx: 0 <= x /\ x < n) (h: IsG w A n c F m d W E): Calls Tryz.prog 84 #[.agg #[.slice A n c,.slice F m d],.int .i64 x] w (GotOwn (succsV W E x) w):=by
 have H:=Lib.hid h
 have ln:=h.ln
 have CN:=Lib.hid (fun W' => is_node x n W' (by omega))
 ·have C:=Lib.hid (fun w' (h: IsG w' A n c F m d W E) => read_ok w' h hM)
  have HO:=Lib.hid (show succsV W E x = succsL n E x by unfold succsV; rw [if_pos hM,h.hn])
  have hF: Fits n E:=by rw [<- h.hn]; exact hM.fits
  have hn64: n <= 64:=by rw [<- h.hn]; exact hM.nodes
  obtain ⟨l,hl⟩: ∃ l,l = succsV W E x:=⟨_,rfl⟩
  rw [<- hl] at HO ⊢
  ·rw [decide_eq_true hx] at CN
   obtain ⟨y,rfl⟩:=Int.eq_ofNat_of_zero_le hx.1
   have hy: y < n:=by omega
   have HSB:=Lib.hid (fun T h => succsL_bits (T:=T) (y:=y) hn64 hF h)
   have CH:=Lib.hid (fun s hs W' => set_has s y W' hs (by omega))
   have CW:=Lib.hid (fun s j hs hj W' => set_with s j W' hs hj)
   have CR:=Lib.hid (fun s W' hs hT => set_rowO s W' hs hT)
   clear h hM hl hF hx
   go_enter Tryz.func84,Tryz.ntmps84
   go_wp2_with fail
   refine (C.out _ (H.out.below (below_alloc _))).mono ?_
   rintro e w1 ⟨g,A',c',rfl,hR⟩
   have HB:=Lib.hid ((below_alloc _).trans (hR.bel.mono (by simp)))
   obtain ⟨ps,hV,hPS⟩:=hR.row
   have HV:=Lib.hid (hV.alloc (.cells #[.slice (some ⟨g,0,none⟩) n n,.slice A' n c'] 135))
   have HPS:=Lib.hid hPS
   have HB2:=Lib.hid (HB.out.alloc HB.out.size (.cells #[.slice (some ⟨g,0,none⟩) n n,.slice A' n c'] 135))
   have HT:=Lib.hid (H.out.tab.via HB2.out)
   clear hR hV hPS
   go_wp2_with (go_at_call 123; refine (CN.out _).mono ?_; rintro e w' ⟨rfl,rfl⟩)
   obtain ⟨w2,hw2⟩: ∃ w2,w2 = w1.alloc (.cells #[.slice (some ⟨g,0,none⟩) n n,.slice A' n c'] 135):=⟨_,rfl⟩
   rw [<- hw2] at HV HB2 HT ⊢
   clear hw2
   go_loop [7,28] (fun tv i => ∃ (j T: Nat),j <= n /\ i = .int .i64 j /\ tv = .int .u64 T /\ T < 18446744073709551616 /\ Hid (∀ a,T.testBit a = (decide (a < j) && decide (ed E y a)))) (fun _ i => n - (intOf i).toNat)
   case atStart => exact ⟨0,0,Nat.zero_le _,rfl,rfl,by decide,Lib.hid (fun a => by rw [Nat.zero_testBit]; simp)⟩
   case round =>
    obtain ⟨j,T,hj,rfl,rfl,hT64,HTB⟩:=hrel
    by_cases hlt: j < n
    ·have hc:=HV.out.cell (natsV_at (ps:=ps) (j:=j) (by rw [HPS.out.len]; exact hlt))
     have C1:=Lib.hid (fun W' => CH.out (ps.getD j 0) (HPS.out.lt j hlt) W')
     have HBIT:=Lib.hid (HPS.out.bit j hlt y)
     have C2:=Lib.hid (fun W' => CW.out T j hT64 (by omega) W')
     have hgl:=HV.out.lt
     obtain ⟨p,hp⟩: ∃ p,p = ps.getD j 0:=⟨_,rfl⟩
     rw [<- hp] at hc C1 HBIT
     have hor: T ||| 2 ^ j < 18446744073709551616:=Nat.or_lt_two_pow (n:=64) hT64 (Nat.pow_lt_pow_right (by decide) (by omega))
     clear hp
     by_cases he: ed E y j
     ·rw [HBIT.out,decide_eq_true he] at C1
      have HST:=Lib.hid (succ_step HTB.out he)
      clear he
      go_wp2_with (first
       | (go_at_call 124; refine (C1.out _).mono ?_; rintro e w' ⟨rfl,rfl⟩)
       | (go_at_call 125; refine (C2.out _).mono ?_; rintro e w' ⟨rfl,rfl⟩))
      go_round
      case rel => exact ⟨j + 1,T ||| 2 ^ j,by omega,by go_num,rfl,hor,HST⟩
      case measure => simp [intOf]; omega
     ·rw [HBIT.out,decide_eq_false he] at C1
      have HST:=Lib.hid (succ_skip HTB.out he)
      clear he
      go_wp2_with (go_at_call 124; refine (C1.out _).mono ?_; rintro e w' ⟨rfl,rfl⟩)
      go_round
      case rel => exact ⟨j + 1,T,by omega,by go_num,rfl,hT64,HST⟩
      case measure => simp [intOf]; omega
    ·obtain rfl: j = n:=by omega
     have HE:=Lib.hid (HSB.out T HTB.out)
     have C3:=Lib.hid (CR.out T w2 hT64 HT.out)
     go_wp2_with (go_at_call 104; refine C3.out.mono ?_; rintro e w3 ⟨A2,c2,rfl,hI,b⟩; have HI:=Lib.hid hI; have HB3:=Lib.hid b; clear hI b)
     go_ret
     rw [HO.out,HE.out]
     exact ⟨A2,c2,rfl,HI.out.down HB2.out.size,HB2.out.trans (HB3.out.mono HB2.out.size)⟩
end
theorem idx_none (g: Nat) (lb: Array Value) (w: World): Calls Tryz.prog 79 #[.slice none 0 0,.func (.func g) #[] lb] w fun e w' => e = .returned (.int .i64 (-1)) /\ w' = w:=by
 go_enter Tryz.func79,Tryz.ntmps79
 go_wp2
 go_loopw [8] (fun v wr => v = .int .i64 0 /\ wr = w) (fun v _ => 0)
 case atStart => exact ⟨rfl,rfl⟩
 case round =>
  obtain ⟨rfl,rfl⟩:=hrel
  go_wp2
  go_ret
  exact ⟨rfl,rfl⟩
theorem del_none (g: Nat) (lb: Array Value) (w: World): Calls Tryz.prog 83 #[.slice none 0 0,.func (.func g) #[] lb] w fun e w' => e = .returned (.slice none 0 0) /\ w' = w:=by
 have C:=Lib.hid (idx_none g lb w)
 go_enter Tryz.func83,Tryz.ntmps83
 go_wp2_with (go_at_call 79; refine C.out.mono ?_; rintro e w' ⟨rfl,rfl⟩)
 go_ret
 exact ⟨rfl,rfl⟩
theorem zero_int (w: World): (zeroValue 3).run Tryz.prog w = .ok (.int .i64 0) w:=by
 obtain ⟨i0,hi,hz0,hz1,hz2⟩:=int_info1
 simp [zeroValue,typeInfo,hi,hz0]
section
variable {w: World} {B: Nat} {A: Option Addr} {n c: Nat} {zs: List Int}
theorem del_own (h: OwnI w B (.slice A n c) zs) (hl: zs.length = n) (hn: n <= 1000) (g: Nat) (eg: ∀ args w,(callFunc g args).run Tryz.prog w = .ok (.enter g args) w) (p: Int -> Bool) {q: Nat} {A2: Option Addr} {c2: Nat} {ys: List Int}
  (hc: w.cell? ⟨q,0,none⟩ = some (.slice A2 ys.length c2)) (hq: q < w.heap.size) (hqb: (Value.slice A n c).ownBlock ≠ some q) (hy: Ints w w.heap.size A2 ys) (hyb: ∀ b off,A2 = some ⟨b,off,none⟩ -> (Value.slice A n c).ownBlock ≠ some b)
  (hp: ∀ W x,W.cell? ⟨q,0,none⟩ = some (.slice A2 ys.length c2) -> Ints W w.heap.size A2 ys -> Calls Tryz.prog g #[.int .i64 x,.pointer (some ⟨q,0,none⟩)] W fun e w' => e = .returned (.bool (p x)) /\ w' = W) :
  Calls Tryz.prog 83 #[.slice A n c,.func (.func g) #[] #[.pointer (some ⟨q,0,none⟩)]] w fun e w' =>
   e = .returned (.slice A (zs.filter fun x => !p x).length c) /\ OwnI w' B (.slice A (zs.filter fun x => !p x).length c) (zs.filter fun x => !p x) /\ ∀ bs: List Nat,(∀ b,(Value.slice A n c).ownBlock = some b -> b ∈ bs) -> Kp bs w w':=by
 subst hl
 rcases h.2 with ⟨e,hx⟩ | ⟨b,cap,cur,e,hb,hbb,hnc,hcm,hcs,ht⟩
 ·injection e with e1 e2 e3
  subst e1 e3
  obtain rfl: zs = []:=List.eq_nil_of_length_eq_zero e2
  refine (del_none g _ w).mono ?_
  rintro e w' ⟨rfl,rfl⟩
  exact ⟨rfl,⟨rfl,.inl ⟨rfl,rfl⟩⟩,fun bs _ => Kp.of_below (Below.refl _ _) _⟩
 ·injection e with e1 e2 e3
  subst e1 e3
  have hbl: b < w.heap.size:=(Array.getElem?_eq_some_iff.1 hbb).1
  have hqb': q ≠ b:=fun e => hqb (by rw [e]; rfl)
  have hcur: cur.size = c:=by omega
  have hcell: ∀ j (hj: j < zs.length),w.cell? ⟨b,j,none⟩ = some (.int .i64 zs[j]):=fun j hj => by
   rw [cell_of_row _ _ _ _ _ _ hbb]
   have h1: (cur.toList.take (zs.length * 1))[j]? = (zs.map (Value.int .i64))[j]?:=by rw [ht]
   rw [List.getElem?_take,if_pos (by omega),Array.getElem?_toList,List.getElem?_map,List.getElem?_eq_getElem hj] at h1
   exact h1
  have hH: Sort.Holds (Value.int .i64) w b 0 zs.toArray:=fun j hj => by
   have hj': j < zs.length:=by simpa using hj
   refine ⟨?_,frozen_of_row w b _ _ _ hbb⟩
   rw [Nat.zero_add,hcell j hj']
   simp [hj']
  have hat: ∀ (W: World) (x: Int),(∀ k,k ≠ b -> k < w.heap.size -> ∀ i,W.cell? ⟨k,i,none⟩ = w.cell? ⟨k,i,none⟩) -> Calls Tryz.prog g #[.int .i64 x,.pointer (some ⟨q,0,none⟩)] W fun e w' => e = .returned (.bool (p x)) /\ w' = W:=fun W x hW =>
   hp W x ((hW q hqb' hq 0).trans hc) (fun hn => by
    obtain ⟨b2,off,e,hb2,hc2⟩:=hy hn
    have hne: b2 ≠ b:=fun e2 => hyb b2 off e (by rw [e2]; rfl)
    exact ⟨b2,off,e,hb2,fun k hk => (hW b2 hne hb2 _).trans (hc2 k hk)⟩)
  have C:=Tryz.slices_DeleteFunc (Value.int .i64) (fun _ => rfl) p g #[.pointer (some ⟨q,0,none⟩)] eg 0 zero_int b 0 c zs.toArray w
   (fun W x hW => (hat W x fun k _ hk i => hW.cell hk).mono fun e w' h => ⟨h.1,0,h.2⟩)
   (fun m os dk x _ => (hat _ x fun k hk hk2 i => by
    unfold sortWorld
    rw [Sort.cell?_grow _ _ _ (by rw [Sort.size_putRow]; exact hk2),Sort.cell?_putRow_other _ _ b 0 _ _ (.inl hk)]
    rfl).mono fun e w' h => ⟨h.1,0,h.2⟩) hH (by have:=hcm; simp; unfold maxLen at this; omega) (by simpa using hnc)
  have hsz: zs.toArray.size = zs.length:=by simp
  rw [hsz] at C
  refine C.mono ?_
  rintro e w' ⟨rfl,k,rfl⟩
  obtain ⟨fs,hfs⟩: ∃ fs,fs = zs.filter fun x => !p x:=⟨_,rfl⟩
  have hfl: fs.length <= zs.length:=by rw [hfs]; exact List.length_filter_le _ _
  have hfs2: (zs.toArray.toList.filter fun x => !p x) = fs:=by rw [hfs]
  rw [hfs2]
  have hgA: (Sort.ahead w k).heap[b]? = some (.cells cur 3 (0,0)):=hbb
  refine ⟨rfl,?_,fun bs hbs => ⟨rfl,rfl,rfl,by rw [Sort.size_putRow]; exact Nat.le_refl _,fun j hj hjb => ?_⟩⟩
  ·refine ⟨by rw [List.length_map,Nat.mul_one],.inr ⟨b,c,Sort.putCells (Value.int .i64) 0 (fs ++ List.replicate (zs.length - fs.length) 0).toArray cur,rfl,hb,heap_putRow hgA _,by omega,hcm,by simp [Sort.putCells]; omega,?_⟩⟩
   have h1:=take_putCells (cur:=cur) (zs:=fs ++ List.replicate (zs.length - fs.length) 0) (by rw [List.length_append,List.length_replicate]; omega)
   have h2:=congrArg (List.take fs.length) h1
   rw [List.take_take,List.length_append,List.length_replicate,show min fs.length (fs.length + (zs.length - fs.length)) = fs.length by omega,List.map_append,List.take_left' (by rw [List.length_map])] at h2
   rw [Nat.mul_one]; exact h2
  ·have hjb2: j ≠ b:=fun e => hjb (hbs j (by rw [e]; rfl))
   rw [heap_putRow_other (Sort.ahead w k) hjb2]
   rfl
end
section
variable {base gw m: Nat} {g: Gng} {L: List Int} {a: GAd} {vW vE: Value}
theorem deal_any {x: Nat} (w: World) (hm1: 1 <= m) (hm: m <= 8) (hT: DTab w) (h: IsWk w base gw m g L a vW vE) (hl: (g.R (x % m)).length = 64) (hp: pushE 64 (g.T (x % m)) (g.B (x % m)) = 0) :
  Calls Tryz.prog 77 #[.pointer (some ⟨gw,0,none⟩),.int .i64 x] w fun e w' => e = .returned (.int .i64 0) /\ ∃ v,IsWk w' base gw m (pushG g (x % m) x) L { a with Rv:=updG a.Rv (x % m) v } vW vE /\ Kp [a.gD] w w':=by
 obtain ⟨j,hj⟩: ∃ j,j = x % m:=⟨_,rfl⟩
 have hjm: j < m:=by rw [hj]; exact Nat.mod_lt _ (by omega)
 rw [<- hj] at hl hp ⊢
 have HJ: Hid ((x: Int).tmod (m: Int) = (j: Int)):=Lib.hid (by rw [hj]; simp [Int.tmod])
 have CS:=Lib.hid (fun (W: World) (hb: Below w.heap.size w W) => storeOf_any (c:=j) hjm (h.below hb))
 have CQ:=Lib.hid (fun (W: World) (hb: Below w.heap.size w W) => push_any (x: Int) W hjm hm (hT.via hb) (h.below hb) hl hp)
 have H:=Lib.hid h
 have hm0: ¬ m = 0:=by omega
 have c0: w.cell? ⟨gw,0,none⟩ = some (.slice (some ⟨a.gO,0,none⟩) m a.cO):=h.row.cell rfl
 have e1: (x: Int).tmod (m: Int) = (j: Int):=HJ.out
 clear h hT hl hp hj hjm
 go_enter Tryz.func77,Tryz.ntmps77
 go_upto_region 1 with fail
 go_wp2_with (first
  | (go_at_call 85; refine (CS.out _ (Below.refl _ _)).mono ?_; rintro e w1 ⟨rfl,hb⟩; (have HB1:=Lib.hid hb); clear hb)
  | (go_at_call 86; refine (CQ.out _ HB1.out).mono ?_; rintro e w2 ⟨rfl,v,hwk,hkp⟩; (have HW:=Lib.hid hwk); (have HK:=Lib.hid hkp); clear hwk hkp))
 go_ret
 exact ⟨rfl,v,HW.out,(Kp.of_below HB1.out _).trans HK.out⟩
end
theorem each_any (A: Option Addr) (c n B: Nat) (l: List Int) (g: Nat) (v1: Value) (eg: ∀ args w,(callFunc g args).run Tryz.prog w = .ok (.enter g args) w) (I: Nat -> World -> Prop) (hn: l.length = n) (hl: n <= 1000)
  (hI: ∀ k W,I k W -> Ints W B A l)
  (hp: ∀ k x W,l[k]? = some x -> I k W -> Calls Tryz.prog g #[v1,.int .i64 x] W fun e w' => e = .returned (.int .i64 0) /\ I (k + 1) w')
  (w: World) (h0: I 0 w) :
  Calls Tryz.prog 75 #[.slice A n c,.func (.func g) #[v1] #[]] w fun e w' => e = .returned (.int .i64 0) /\ I n w':=by
 have HT:=Lib.hid hI
 have HP:=Lib.hid hp
 have HN:=Lib.hid hn
 have H0:=Lib.hid h0
 clear hI hp hn h0
 go_enter Tryz.func75,Tryz.ntmps75
 go_wp2
 go_loopw [10] (fun v wr => ∃ k: Nat,k <= n /\ v = .int .i64 k /\ Hid (I k wr)) (fun v _ => n - (intOf v).toNat)
 case atStart => exact ⟨0,Nat.zero_le _,rfl,H0⟩
 case round =>
  obtain ⟨k,hk,rfl,HI⟩:=hrel
  clear H0
  by_cases hlt: k < n
  ·obtain ⟨bk,off,x,rfl,hbg,hek,d1⟩:=(HT.out k wr HI.out).at_ (k:=k) (by rw [HN.out]; exact hlt)
   have HEK:=Lib.hid hek
   have hcall:=HP.out k x wr hek HI.out
   clear hek
   go_wp2_with (go_at_fn g; refine hcall.mono ?_; rintro e w' ⟨rfl,hb'⟩; have HB:=Lib.hid hb'; clear hb')
   go_roundw
   case rel => exact ⟨k + 1,by omega,by go_num,HB⟩
   case measure => simp [intOf]; omega
  ·have e: k = n:=by omega
   subst e
   go_wp2
   go_ret
   exact ⟨rfl,HI.out⟩
theorem results_cell_two {fn: Func} {p u t: Tmp} {ty: TypeId} (h: fn.results = #[.cell p ty,.tmp u,.tmp t]) (tmps: Array Value) (P: Program) (w: World) :
  (results fn tmps).run P w =
   ((asAddr (tmps.getD p undef)).run P w).andThen fun a w₁ => ((loadVar ty a).run P w₁).andThen fun v w₂ => .ok (.tuple #[v,tmps.getD u undef,tmps.getD t undef]) w₂:=by
 simp only [results,h]
 simp [Sem.run_bind,Result.andThen]
structure BxF (wf: World) (A: Option Addr) (n c: Nat) (F: Option Addr) (m d: Nat) (W: List Int) (E: List (Int × Int)) (u1 v1: Value) (w: World): Prop where
 bel: Below wf.heap.size wf w
 d0: w.cell? ⟨wf.heap.size,0,none⟩ = some (.slice A n c)
 d1: w.cell? ⟨wf.heap.size,1,none⟩ = some (.slice F m d)
 r1: w.heap[wf.heap.size + 1]? = some (.cells #[u1,v1] 37 (0,0))
 r2: w.heap[wf.heap.size + 1 + 1]? = some (.cells #[.slice none 0 0,.slice none 0 0] 37 (0,0))
 g0: IsG wf A n c F m d W E
section
variable {A: Option Addr} {n c: Nat} {F: Option Addr} {m d: Nat} {W: List Int} {E: List (Int × Int)} {A': Option Addr} {n' c': Nat} {F': Option Addr} {m' d': Nat} {O L: List Int} {wf w w': World} {u1 v1: Value}
theorem BxF.g (h: BxF wf A n c F m d W E u1 v1 w): IsG w A n c F m d W E:=h.g0.below h.bel
theorem BxF.lt (h: BxF wf A n c F m d W E u1 v1 w): wf.heap.size + 1 + 1 < w.heap.size:=(Array.getElem?_eq_some_iff.1 h.r2).1
theorem BxF.later (h: BxF wf A n c F m d W E u1 v1 w) (hb: Below (wf.heap.size + 1 + 1 + 1) w w'): BxF wf A n c F m d W E u1 v1 w' :=
 ⟨h.bel.trans (hb.mono (by omega)),(hb.cell (show wf.heap.size < wf.heap.size + 1 + 1 + 1 by omega)).trans h.d0,(hb.cell (show wf.heap.size < wf.heap.size + 1 + 1 + 1 by omega)).trans h.d1,(hb.block _ (by omega)).trans h.r1,(hb.block _ (by omega)).trans h.r2,h.g0⟩
theorem BxF.next (h: BxF wf A n c F m d W E u1 v1 w) (hb: Below w.heap.size w w'): BxF wf A n c F m d W E u1 v1 w':=h.later (hb.mono h.lt)
theorem BxF.set1 (h: BxF wf A n c F m d W E u1 v1 w) (a b: Value): BxF wf A n c F m d W E a b ((w.setCell ⟨wf.heap.size + 1,0,none⟩ a).setCell ⟨wf.heap.size + 1,1,none⟩ b):=by
 have hoth:=other_setC w (wf.heap.size + 1) a b
 have hb: Below (wf.heap.size + 1) w ((w.setCell ⟨wf.heap.size + 1,0,none⟩ a).setCell ⟨wf.heap.size + 1,1,none⟩ b):=below_setC (Nat.le_refl _) _ _
 exact ⟨h.bel.trans (hb.mono (by omega)),(hb.cell (show wf.heap.size < wf.heap.size + 1 by omega)).trans h.d0,(hb.cell (show wf.heap.size < wf.heap.size + 1 by omega)).trans h.d1,row_setC h.r1 _ _,by rw [hoth _ (by omega)]; exact h.r2,h.g0⟩
theorem BxF.start (hg: IsG w A n c F m d W E) (A': Option Addr) (n' c': Nat) (F': Option Addr) (m' d': Nat): BxF w A n c F m d W E (.slice A' n' c') (.slice F' m' d') (((w.alloc (.cells #[.slice A n c,.slice F m d] 25)).alloc (.cells #[.slice A' n' c',.slice F' m' d'] 37)).alloc (.cells #[.slice none 0 0,.slice none 0 0] 37)):=by
 obtain ⟨w0,hw0⟩: ∃ w0,w0 = w.alloc (.cells #[.slice A n c,.slice F m d] 25):=⟨_,rfl⟩
 have s0: w0.heap.size = w.heap.size + 1:=by rw [hw0]; simp
 have b0: Below w.heap.size w w0:=by rw [hw0]; exact below_alloc _
 have d0: ∀ j u,(#[.slice A n c,.slice F m d]: Array Value)[j]? = some u -> w0.cell? ⟨w.heap.size,j,none⟩ = some u:=fun j u hu => by rw [hw0,World.cell?_alloc_at _ _ _ _ rfl]; exact hu
 rw [<- hw0]
 clear hw0
 obtain ⟨w1,hw1⟩: ∃ w1,w1 = w0.alloc (.cells #[.slice A' n' c',.slice F' m' d'] 37):=⟨_,rfl⟩
 have s1: w1.heap.size = w.heap.size + 1 + 1:=by rw [hw1]; simp [s0]
 have b1: Below w0.heap.size w0 w1:=by rw [hw1]; exact below_alloc _
 have r1: w1.heap[w.heap.size + 1]? = some (.cells #[.slice A' n' c',.slice F' m' d'] 37 (0,0)):=by rw [hw1,<- s0]; exact heap_alloc_new _ _
 rw [<- hw1]
 clear hw1
 obtain ⟨w2,hw2⟩: ∃ w2,w2 = w1.alloc (.cells #[.slice none 0 0,.slice none 0 0] 37):=⟨_,rfl⟩
 have b2: Below w1.heap.size w1 w2:=by rw [hw2]; exact below_alloc _
 have r2: w2.heap[w.heap.size + 1 + 1]? = some (.cells #[.slice none 0 0,.slice none 0 0] 37 (0,0)):=by rw [hw2,<- s1]; exact heap_alloc_new _ _
 rw [<- hw2]
 refine ⟨b0.trans ((b1.mono (by omega)).trans (b2.mono (by omega))),?_,?_,?_,r2,hg⟩
 ·rw [b2.cell (show w.heap.size < w1.heap.size by omega),b1.cell (show w.heap.size < w0.heap.size by omega)]; exact d0 0 _ rfl
 ·rw [b2.cell (show w.heap.size < w1.heap.size by omega),b1.cell (show w.heap.size < w0.heap.size by omega)]; exact d0 1 _ rfl
 ·rw [b2.block _ (by omega)]; exact r1
theorem RowsC.other {B gO: Nat} {FL: Option Addr} {n m cO cL: Nat} {O L: List Int} {w w': World} {g: Nat} {cs: Array Value} (h: RowsC B gO FL n m cO cL O L w) (hg: w.heap[g]? = some (.cells cs 37 (0,0))) (hk: ∀ k,k ≠ g -> w'.heap[k]? = w.heap[k]?): RowsC B gO FL n m cO cL O L w' :=
 ⟨other_ownC h.rO hg (by decide) hk,other_ownC h.rL hg (by decide) hk,h.ne⟩
theorem RowsC.down {B B' gO: Nat} {FL: Option Addr} {n m cO cL: Nat} {O L: List Int} {w: World} (h: RowsC B gO FL n m cO cL O L w) (hB: B' <= B): RowsC B' gO FL n m cO cL O L w:=⟨h.rO.down hB,h.rL.down hB,h.ne⟩
end
section
variable {A: Option Addr} {n c: Nat} {F: Option Addr} {m d: Nat} {W: List Int} {E: List (Int × Int)} {A': Option Addr} {n' c': Nat} {F': Option Addr} {m' d': Nat} {O L: List Int}
theorem cready_own (w: World) (hz0: crewE W E O L = 0) (hg: IsG w A n c F m d W E) (hk: IsC w A' n' c' F' m' d' O L) :
  Calls Tryz.prog 76 #[.agg #[.slice A n c,.slice F m d],.agg #[.slice A' n' c',.slice F' m' d']] w (GotOwn (readyV W E O L) w):=by
 obtain ⟨w0,hw0⟩: ∃ w0,w0 = (w.alloc (.cells #[.slice A n c,.slice F m d] 25)).alloc (.cells #[.slice A' n' c',.slice F' m' d'] 37):=⟨_,rfl⟩
 have B0: Hid (BxDC w A n c F m d W E A' n' c' F' m' d' O L w0):=Lib.hid (by rw [hw0]; exact BxDC.start hg hk)
 have HW:=Lib.hid hw0
 have CK:=Lib.hid (ccheck_any w0 B0.out.g B0.out.k)
 obtain ⟨z,hz⟩: ∃ z,z = crewE W E O L:=⟨_,rfl⟩
 rw [<- hz] at CK
 have hmw:=hk.hm
 clear hw0 hg hk
 have p0:=B0.out.d0
 have p1:=B0.out.d1
 have q0:=B0.out.c0
 have q1:=B0.out.c1
 ·obtain rfl: z = 0:=hz.trans hz0
  obtain ⟨hM,hC⟩:=crewE_zero.mp hz.symm
  have CR:=Lib.hid (fun W' (h1: IsG W' A n c F m d W E) (h2: IsC W' A' n' c' F' m' d' O L) => pready_any W' h1 h2 hM.fits hM.nodes hC.ln)
  have HV: Hid (readyV W E O L = readyW E O L m'):=Lib.hid (by unfold readyV; rw [if_pos hz.symm,<- hC.ln,hmw])
  clear hM hC hz hmw
  go_enter Tryz.func76,Tryz.ntmps76
  go_wp2_with fail
  rw [<- HW.out]
  refine CK.out.mono ?_
  rintro e w1 ⟨rfl,b1⟩
  have B1:=Lib.hid (B0.out.next b1)
  clear b1 B0 CK p0 p1 q0 q1
  have p0:=B1.out.d0
  have p1:=B1.out.d1
  have q0:=B1.out.c0
  have q1:=B1.out.c1
  go_wp2_with fail
  refine (CR.out w1 B1.out.g B1.out.k).mono ?_
  rintro e w2 ⟨A1,c1,rfl,ho,b2⟩
  have B2:=Lib.hid (B1.out.next b2)
  have HO:=Lib.hid ho
  clear ho b2
  go_wp2
  go_ret
  exact ⟨A1,c1,by rw [HV.out]; rfl,by rw [HV.out]; exact HO.out.down B1.out.bel.size,B2.out.bel⟩
end
section
variable {A: Option Addr} {n c: Nat} {F: Option Addr} {m d: Nat} {W: List Int} {E: List (Int × Int)} {A': Option Addr} {n' c': Nat} {F': Option Addr} {m' d': Nat} {O L: List Int} {wf w w': World} {u1 v1: Value}
theorem ctick_own (w: World) (hz0: crewE W E O L = 0) (hg: IsG w A n c F m d W E) (hk: IsC w A' n' c' F' m' d' O L) :
  Calls Tryz.prog 81 #[.agg #[.slice A n c,.slice F m d],.agg #[.slice A' n' c',.slice F' m' d']] w fun e w' => ∃ gO cO FL cL A5 c5,e = .returned (.tuple #[.agg #[.slice (some ⟨gO,0,none⟩) n' cO,.slice FL m' cL],.slice A5 (nums (doneT O L)).length c5,.int .i64 0]) /\ RowsC w.heap.size gO FL n' m' cO cL (onT O L) (leftT O L) w' /\ OwnI w' w.heap.size (.slice A5 (nums (doneT O L)).length c5) (nums (doneT O L)) /\ Below w.heap.size w w':=by
 obtain ⟨w0,hw0⟩: ∃ w0,w0 = ((w.alloc (.cells #[.slice A n c,.slice F m d] 25)).alloc (.cells #[.slice A' n' c',.slice F' m' d'] 37)).alloc (.cells #[.slice none 0 0,.slice none 0 0] 37):=⟨_,rfl⟩
 have B0: Hid (BxF w A n c F m d W E (.slice A' n' c') (.slice F' m' d') w0):=Lib.hid (by rw [hw0]; exact BxF.start hg _ _ _ _ _ _)
 have HW:=Lib.hid hw0
 have CK:=Lib.hid (ccheck_any w0 B0.out.g (hk.below B0.out.bel))
 obtain ⟨z,hz⟩: ∃ z,z = crewE W E O L:=⟨_,rfl⟩
 rw [<- hz] at CK
 have HZ:=Lib.hid hz
 have HK:=Lib.hid hk
 have HG:=Lib.hid hg
 have ln:=hk.ln
 have lm:=hk.lm
 clear hw0 hg hk hz
 have p0:=B0.out.d0
 have p1:=B0.out.d1
 have q0:=cell_of_row _ _ 0 _ _ _ B0.out.r1
 have q1:=cell_of_row _ _ 1 _ _ _ B0.out.r1
 simp at q0 q1
 ·obtain rfl: z = 0:=HZ.out.trans hz0
  obtain ⟨hM,hC⟩:=crewE_zero.mp HZ.out.symm
  have hn0: 0 < n':=by have:=hC.lo; have:=HK.out.hn; omega
  have HV: Hid (tickO W E O L = onT O L /\ tickL W E O L = leftT O L /\ tickD W E O L = nums (doneT O L)):=Lib.hid (by
   unfold tickO tickL tickD
   rw [if_pos HZ.out.symm,if_pos HZ.out.symm,if_pos HZ.out.symm]
   exact ⟨rfl,rfl,rfl⟩)
  have CC:=Lib.hid (fun W' (h: IsC W' A' n' c' F' m' d' O L) => copied_any W' h hn0)
  have CF:=Lib.hid (fun W' gO cO FL cL (hr: RowsC (w.heap.size + 1 + 1 + 1) gO FL n' m' cO cL O L W') => ptick_any (w.heap.size + 1 + 1 + 1) W' hr (fun x hx => (hC.on x hx).imp id fun q => ⟨q.1.1,by rw [hC.ln]; exact q.1.2⟩) hC.once hC.left ln lm)
  clear hM hC
  go_enter Tryz.func81,Tryz.ntmps81
  go_wp2_with fail
  rw [<- HW.out]
  refine CK.out.mono ?_
  rintro e w1 ⟨rfl,b1⟩
  have B1:=Lib.hid (B0.out.next b1)
  clear b1 B0 CK p0 p1 q0 q1 HW
  have q0:=cell_of_row _ _ 0 _ _ _ B1.out.r1
  have q1:=cell_of_row _ _ 1 _ _ _ B1.out.r1
  simp at q0 q1
  go_wp2_with fail
  refine (CC.out w1 (HK.out.below B1.out.bel)).mono ?_
  rintro e w2 ⟨gO,cO,FL,cL,rfl,hr2,b2⟩
  have B2:=Lib.hid (B1.out.next b2)
  have HR2:=Lib.hid (hr2.down B1.out.lt)
  clear hr2 b2 B1 CC q0 q1
  have q0:=cell_of_row _ _ 0 _ _ _ B2.out.r1
  have q1:=cell_of_row _ _ 1 _ _ _ B2.out.r1
  have z0:=frozen_of_row w2 (w.heap.size + 1) 0 _ _ B2.out.r1
  have z1:=frozen_of_row w2 (w.heap.size + 1) 1 _ _ B2.out.r1
  have B3:=Lib.hid (B2.out.set1 (.slice (some ⟨gO,0,none⟩) n' cO) (.slice FL m' cL))
  have HSZ:=Lib.hid B3.out.bel.size
  have HR3:=Lib.hid (HR2.out.other B2.out.r1 (other_setC w2 (w.heap.size + 1) (.slice (some ⟨gO,0,none⟩) n' cO) (.slice FL m' cL)))
  have u0:=cell_of_row _ _ 0 _ _ _ B3.out.r1
  have u1:=cell_of_row _ _ 1 _ _ _ B3.out.r1
  have l2: w.heap.size + 1 < w2.heap.size:=by have:=B2.out.lt; omega
  simp at q0 q1 u0 u1
  go_wp2_with fail
  refine (CF.out _ gO cO FL cL HR3.out).mono ?_
  rintro e w4 ⟨A5,k5,c5,gL,rfl,hd,hkd,hr4,_,hgL,ht4⟩
  have hgO: w.heap.size + 1 + 1 + 1 <= gO:=by obtain ⟨cur,_,h,_⟩:=HR2.out.rO.blockC; exact h
  have B4: Hid (BxF w A n c F m d W E (.slice (some ⟨gO,0,none⟩) n' cO) (.slice FL m' cL) w4):=Lib.hid (B3.out.later (ht4.below (by have:=B3.out.lt; omega) (by omega) (by omega)))
  have HR4:=Lib.hid hr4
  have HD4:=Lib.hid hd
  clear hr4 ht4 hgO B3 B2 HR2 HR3 q0 q1 z0 z1 u0 u1 l2 CF hd
  have q0:=cell_of_row _ _ 0 _ _ _ B4.out.r1
  have q1:=cell_of_row _ _ 1 _ _ _ B4.out.r1
  have r0:=cell_of_row _ _ 0 _ _ _ B4.out.r2
  have r1:=cell_of_row _ _ 1 _ _ _ B4.out.r2
  have z0:=frozen_of_row w4 (w.heap.size + 1 + 1) 0 _ _ B4.out.r2
  have z1:=frozen_of_row w4 (w.heap.size + 1 + 1) 1 _ _ B4.out.r2
  simp at q0 q1 r0 r1
  have HF2:=Lib.hid (row_setC B4.out.r2 (.slice (some ⟨gO,0,none⟩) n' cO) (.slice FL m' cL))
  have hb5: Below (w.heap.size + 1 + 1) w4 ((w4.setCell ⟨w.heap.size + 1 + 1,0,none⟩ (.slice (some ⟨gO,0,none⟩) n' cO)).setCell ⟨w.heap.size + 1 + 1,1,none⟩ (.slice FL m' cL)):=below_setC (Nat.le_refl _) _ _
  have HB5:=Lib.hid (B4.out.bel.trans (hb5.mono (by omega)))
  have HR5:=Lib.hid (HR4.out.other B4.out.r2 (other_setC w4 (w.heap.size + 1 + 1) (.slice (some ⟨gO,0,none⟩) n' cO) (.slice FL m' cL)))
  have HD5:=Lib.hid ((other_ownC HD4.out B4.out.r2 (by decide) (other_setC w4 (w.heap.size + 1 + 1) (.slice (some ⟨gO,0,none⟩) n' cO) (.slice FL m' cL))))
  have HK5:=Lib.hid hkd
  clear hb5 hkd
  go_wp2
  have hdl: (nums (doneT O L)).length = k5:=HK5.out
  refine bodyPost_ret (v:=.tuple #[.agg #[.slice (some ⟨gO,0,none⟩) n' cO,.slice FL m' cL],.slice A5 k5 c5,.int .i64 0]) ?_ rfl ⟨gO,cO,FL,cL,A5,c5,by rw [hdl],HR5.out.down (by omega),OwnI.down (show OwnI _ (_ + 1) (.slice A5 (nums (doneT O L)).length c5) (nums (doneT O L)) from by rw [hdl]; exact HD5.out) (Nat.le_trans HSZ.out (Nat.le_succ _)),HB5.out⟩
  rw [results_cell_two rfl]
  simp [asAddr,run_loadVar_row _ (w.heap.size + 1 + 1) _ _ _ _ _ HF2.out Tryz.underlying37 rfl (by kernel_rfl),Result.andThen]
end
end Go.Proofs.YtfpnkcpjhbkgnaaGreatDoor
