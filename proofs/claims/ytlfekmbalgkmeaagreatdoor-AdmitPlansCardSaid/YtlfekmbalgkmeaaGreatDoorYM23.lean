import Derived.Test.YtlfekmbalgkmeaaGreatDoorYM22
import Derived.Test.YtlfekmbalgkmeaaGreatDoorYM11
import Derived.Test.YtlfekmbalgkmeaaGreatDoorYM1
import Derived.Test.YtlfekmbalgkmeaaGreatDoorYM3
import Derived.Laws.BitsAllLaws
set_option linter.unusedSimpArgs false
set_option linter.unnecessarySimpa false
set_option linter.unusedVariables false
set_option maxRecDepth 100000
set_option maxHeartbeats 2000000
namespace Go.Proofs.YtlfekmbalgkmeaaGreatDoor
open Go.RowKit
def WorkOk (W: List Int): Prop:=∀ z ∈ W,0 <= z /\ z <= 1000
open Classical in
noncomputable def plainE (W: List Int) (E: List (Int × Int)): Int :=
 if 64 < W.length \/ 256 < E.length then 40 else if ¬ WorkOk W then 41 else if ¬ EdgesOk W.length E then 42 else 0
theorem plainE_zero {W: List Int} {E: List (Int × Int)}: plainE W E = 0 ↔ (W.length <= 64 /\ E.length <= 256) /\ WorkOk W /\ EdgesOk W.length E:=by
 unfold plainE
 split
 ·constructor
  ·intro h; cases h
  ·rintro ⟨h,_⟩; omega
 ·split
  ·constructor
   ·intro h; cases h
   ·rintro ⟨_,h,_⟩; contradiction
  ·split
   ·constructor
    ·intro h; cases h
    ·rintro ⟨_,_,h⟩; contradiction
   ·rename_i h1 h2 h3
    exact ⟨fun _ => ⟨by omega,Classical.not_not.mp h2,Classical.not_not.mp h3⟩,fun _ => rfl⟩
theorem plainE_many {W: List Int} {E: List (Int × Int)} (h: 64 < W.length \/ 256 < E.length): plainE W E = 40:=by unfold plainE; rw [if_pos h]
theorem plainE_work {W: List Int} {E: List (Int × Int)} (h: ¬ (64 < W.length \/ 256 < E.length)) (h2: ¬ WorkOk W): plainE W E = 41:=by unfold plainE; rw [if_neg h,if_pos h2]
theorem plainE_edge {W: List Int} {E: List (Int × Int)} (h: ¬ (64 < W.length \/ 256 < E.length)) (h2: WorkOk W) (h3: ¬ EdgesOk W.length E): plainE W E = 42:=by unfold plainE; rw [if_neg h,if_neg (fun k => k h2),if_pos h3]
theorem workOk_snoc {W: List Int} {j: Nat} {z: Int} (h: W[j]? = some z): WorkOk (W.take (j + 1)) ↔ WorkOk (W.take j) /\ 0 <= z /\ z <= 1000:=by
 rw [take_snoc' h]
 unfold WorkOk
 constructor
 ·intro k
  exact ⟨fun x hx => k x (by simp [hx]),k z (by simp)⟩
 ·rintro ⟨k1,k2⟩ x hx
  rcases List.mem_append.mp hx with hx | hx
  ·exact k1 x hx
  ·obtain rfl: x = z:=by simpa using hx
   exact k2
open Classical in
noncomputable def chkE (W: List Int) (E: List (Int × Int)): Int:=if plainE W E ≠ 0 then plainE W E else if Acyc E then 0 else 43
structure May (W: List Int) (E: List (Int × Int)): Prop where
 nodes: W.length <= 64
 edges: E.length <= 256
 work: WorkOk W
 fits: Fits W.length E
 apart: ∀ e ∈ E,e.1 ≠ e.2
 once: E.Nodup
 acyc: Acyc E
theorem chkE_zero {W: List Int} {E: List (Int × Int)}: chkE W E = 0 ↔ May W E:=by
 unfold chkE
 split
 ·rename_i h
  exact ⟨fun k => absurd k h,fun k => absurd (plainE_zero.mpr ⟨⟨k.nodes,k.edges⟩,k.work,k.fits,k.apart,k.once⟩) h⟩
 ·rename_i h
  have h1:=plainE_zero.mp (Classical.not_not.mp h)
  split
  ·rename_i hA
   exact ⟨fun _ => ⟨h1.1.1,h1.1.2,h1.2.1,h1.2.2.1,h1.2.2.2.1,h1.2.2.2.2,hA⟩,fun _ => rfl⟩
  ·rename_i hA
   exact ⟨fun k => (by cases k),fun k => absurd k.acyc hA⟩
theorem chkE_plain {W: List Int} {E: List (Int × Int)} (h: plainE W E ≠ 0): chkE W E = plainE W E:=by unfold chkE; rw [if_pos h]
theorem chkE_round {W: List Int} {E: List (Int × Int)} (h: plainE W E = 0) (hA: ¬ Acyc E): chkE W E = 43:=by unfold chkE; rw [if_neg (fun k => k h),if_neg hA]
theorem chkE_ok {W: List Int} {E: List (Int × Int)} (h: plainE W E = 0) (hA: Acyc E): chkE W E = 0:=by unfold chkE; rw [if_neg (fun k => k h),if_pos hA]
theorem pick_at {n: Nat} {E: List (Int × Int)} {out: List Nat} {i: Nat} (hi: i < n) (h: ready n E out i = true) (hb: ∀ m,m < i -> ready n E out m = false): pick n E out = some i:=by
 unfold pick
 rw [List.find?_range_eq_some]
 exact ⟨h,List.mem_range.mpr hi,fun j hj => by rw [hb j hj]; rfl⟩
theorem pick_nil {n: Nat} {E: List (Int × Int)} {out: List Nat} (hb: ∀ m,m < n -> ready n E out m = false): pick n E out = none:=by
 unfold pick
 rw [List.find?_eq_none]
 intro m hm
 rw [hb m (List.mem_range.mp hm)]
 exact Bool.false_ne_true
theorem ordK_some {n: Nat} {E: List (Int × Int)} {k m: Nat} (h: pick n E (ordK n E k) = some m): ordK n E (k + 1) = ordK n E k ++ [m]:=by
 show (match pick n E (ordK n E k) with | some m => ordK n E k ++ [m] | none => ordK n E k) = _
 rw [h]
def bitsL (s: Nat): List Nat:=(List.range 64).filter s.testBit
theorem mem_bitsL {s j: Nat}: j ∈ bitsL s ↔ j < 64 /\ s.testBit j = true:=by
 unfold bitsL
 rw [List.mem_filter,List.mem_range]
theorem bitsL_zero: bitsL 0 = []:=by decide
theorem bitsL_length (s: Nat): (bitsL s).length <= 64:=by
 unfold bitsL
 have:=List.length_filter_le s.testBit (List.range 64)
 rwa [List.length_range] at this
theorem filt_first (p q : Nat -> Bool) (k : Nat) (hk : p k = true) (hlt : ∀ j, j < k -> p j = false) (hq : ∀ j, q j = (p j && decide (j ≠ k))) : ∀ n, k < n -> (List.range n).filter p = k :: (List.range n).filter q
  | 0, h => by omega
  | n + 1, h => by
    rw [List.range_succ, List.filter_append, List.filter_append]
    rcases Nat.lt_or_ge k n with h1 | h1
    · rw [filt_first p q k hk hlt hq n h1]
      have e : q n = p n := by rw [hq, decide_eq_true (by omega : n ≠ k), Bool.and_true]
      simp [List.filter, e]
    · obtain rfl : n = k := by omega
      have e1 : (List.range n).filter p = [] := List.filter_eq_nil_iff.mpr fun j hj => by rw [hlt j (List.mem_range.mp hj)]; exact Bool.false_ne_true
      have e2 : (List.range n).filter q = [] := List.filter_eq_nil_iff.mpr fun j hj => by rw [hq, hlt j (List.mem_range.mp hj)]; exact Bool.false_ne_true
      have e3 : q n = false := by rw [hq]; simp
      rw [e1, e2]
      simp [List.filter, hk, e3]
theorem low_bit (k m j: Nat): (2 ^ k * (2 * m + 1)).testBit j = (decide (k <= j) && (decide (j = k) || m.testBit (j - k - 1))):=by
 rw [Nat.mul_comm,Nat.testBit_mul_two_pow]
 by_cases h: k <= j
 ·by_cases he: j = k
  ·subst he
   simp [Nat.testBit_zero]
  ·obtain ⟨i,rfl⟩: ∃ i,j = k + (i + 1):=⟨j - k - 1,by omega⟩
   have e1: k + (i + 1) - k = i + 1:=by omega
   have e2: (2 * m + 1) / 2 = m:=by omega
   rw [e1,Nat.testBit_succ,e2]
   simp
 ·simp [h]
theorem low_less (k m j: Nat): (2 ^ k * (2 * m + 1) - 1).testBit j = (decide (j < k) || (decide (k < j) && m.testBit (j - k - 1))):=by
 have hp: 0 < 2 ^ k:=Nat.two_pow_pos k
 have e: 2 ^ k * (2 * m + 1) - 1 = 2 ^ k * (2 * m) + (2 ^ k - 1):=by rw [Nat.mul_add]; omega
 rw [e,Nat.testBit_two_pow_mul_add _ (by omega)]
 by_cases h: j < k
 ·rw [if_pos h,Nat.testBit_two_pow_sub_one]
  simp [h]
 ·rw [if_neg h]
  by_cases he: j = k
  ·subst he
   simp [Nat.testBit_zero]
  ·obtain ⟨i,rfl⟩: ∃ i,j = k + (i + 1):=⟨j - k - 1,by omega⟩
   have e1: k + (i + 1) - k = i + 1:=by omega
   have e2: (2 * m) / 2 = m:=by omega
   rw [e1,Nat.testBit_succ,e2]
   have h3: k < k + (i + 1):=by omega
   simp [h,h3]
theorem bitsL_step {s: Nat} (h0: s ≠ 0) (hs: s < 18446744073709551616): bitsL s = Lib.ctz 64 s :: bitsL (s &&& (s - 1)):=by
 obtain ⟨m,hm,hk⟩:=Lib.ctzFrom_spec 64 s (by omega) hs
 have hc: Lib.ctz 64 s = Lib.ctzFrom 64 s:=by unfold Lib.ctz; rw [if_neg h0]
 rw [hc]
 obtain ⟨k,hk2⟩: ∃ k,k = Lib.ctzFrom 64 s:=⟨_,rfl⟩
 rw [<- hk2] at hm hk ⊢
 clear hk2 hc
 unfold bitsL
 refine filt_first _ _ k ?_ ?_ ?_ 64 hk
 ·rw [hm,low_bit]; simp
 ·intro j hj
  rw [hm,low_bit]
  simp [show ¬ k <= j by omega]
 ·intro j
  rw [Nat.testBit_and,hm,low_bit,low_less]
  by_cases h1: j < k
  ·simp [h1,show ¬ k <= j by omega]
  ·by_cases h2: j = k
   ·subst h2
    simp
   ·have h3: k < j:=by omega
    have h4: k <= j:=by omega
    simp [h1,h2,h3,h4]
theorem and_pred_lt {s: Nat} (h0: s ≠ 0): s &&& (s - 1) < s:=Nat.lt_of_le_of_lt Nat.and_le_right (by omega)
theorem or_bit_testBit (s n j: Nat): (s ||| 2 ^ n).testBit j = (s.testBit j || decide (n = j)):=by
 rw [Nat.testBit_or,Nat.testBit_two_pow]
theorem set_has_core (s n p q r: Nat) (b: Bool) (w: World) (hn: n < 64) (hp: (2: Int) ^ n = (p: Int)) (hq: (s: Int) / (p: Int) = (q: Int)) (ha: bits .and .u64 (q: Int) 1 = (r: Int)) (hb: ((r: Int) == 1) = b) :
  Calls Tryz.prog 152 #[.int .u64 s,.int .i64 n] w fun e w' => e = .returned (.bool b) /\ w = w':=by
 go_enter Tryz.func152,Tryz.ntmps152
 go_wp2
 go_ret
 exact ⟨rfl,rfl⟩
theorem set_has (s n: Nat) (w: World) (hs: s < 18446744073709551616) (hn: n < 64) :
  Calls Tryz.prog 152 #[.int .u64 s,.int .i64 n] w fun e w' => e = .returned (.bool (s.testBit n)) /\ w = w':=by
 have h1: s / 2 ^ n <= s:=Nat.div_le_self _ _
 refine set_has_core s n (2 ^ n) (s / 2 ^ n) (s / 2 ^ n % 2) (s.testBit n) w hn (by push_cast; rfl) (by push_cast; rfl) ?_ ?_
 ·have h2:=bits_and_u64_nat (s / 2 ^ n) 1 (by omega) (by decide)
  rw [Nat.and_one_is_mod] at h2
  exact h2
 ·rw [Nat.testBit_eq_decide_div_mod_eq]
  rcases Nat.mod_two_eq_zero_or_one (s / 2 ^ n) with h | h <;> rw [h] <;> rfl
theorem set_with_core (s n p r: Nat) (w: World) (hn: n < 64) (hp: (2: Int) ^ n = (p: Int)) (hw: IntKind.u64.wrap (p: Int) = (p: Int)) (ha: bits .or .u64 (s: Int) (p: Int) = (r: Int)) :
  Calls Tryz.prog 153 #[.int .u64 s,.int .i64 n] w fun e w' => e = .returned (.int .u64 r) /\ w = w':=by
 go_enter Tryz.func153,Tryz.ntmps153
 go_wp2
 go_ret
 exact ⟨rfl,rfl⟩
theorem set_with (s n: Nat) (w: World) (hs: s < 18446744073709551616) (hn: n < 64) :
  Calls Tryz.prog 153 #[.int .u64 s,.int .i64 n] w fun e w' => e = .returned (.int .u64 (s ||| 2 ^ n: Nat)) /\ w = w':=by
 have h1: 2 ^ n < 18446744073709551616:=Nat.pow_lt_pow_right (by decide) hn
 refine set_with_core s n (2 ^ n) (s ||| 2 ^ n) w hn (by push_cast; rfl) ?_ (bits_or_u64_nat s (2 ^ n) hs h1)
 obtain ⟨p,hp⟩: ∃ p,p = 2 ^ n:=⟨_,rfl⟩
 rw [<- hp] at h1 ⊢
 rw [IntKind.wrap_u64]
 omega
theorem is_node (x: Int) (n: Nat) (w: World) (hn: n <= 1000) :
  Calls Tryz.prog 151 #[.int .i64 x,.int .i64 n] w fun e w' => e = .returned (.bool (decide (0 <= x /\ x < n))) /\ w = w':=by
 by_cases h0: 0 <= x
 ·by_cases h1: x < n
  ·rw [decide_eq_true (⟨h0,h1⟩: 0 <= x /\ x < n)]
   go_enter Tryz.func151,Tryz.ntmps151
   go_wp2
   go_ret
   exact ⟨rfl,rfl⟩
  ·rw [decide_eq_false (fun h => h1 h.2: ¬ (0 <= x /\ x < n))]
   go_enter Tryz.func151,Tryz.ntmps151
   go_wp2
   go_ret
   exact ⟨rfl,rfl⟩
 ·rw [decide_eq_false (fun h => h0 h.1: ¬ (0 <= x /\ x < n))]
  go_enter Tryz.func151,Tryz.ntmps151
  go_wp2
  go_ret
  exact ⟨rfl,rfl⟩
theorem ownI_nil (w: World) (base: Nat): OwnI w base (.slice none 0 0) []:=⟨rfl,.inl ⟨rfl,rfl⟩⟩
theorem set_row (s: Nat) (w: World) (hs: s < 18446744073709551616) (hT: Tab64 w) :
  Calls Tryz.prog 93 #[.int .u64 s] w (GotInts (nums (bitsL s)) w):=by
 have HS:=Lib.hid hs
 have HT:=Lib.hid hT
 have HLEN:=Lib.hid (bitsL_length s)
 clear hs hT
 go_enter Tryz.func93,Tryz.ntmps93
 go_wp2
 go_loopw [0,3] (fun sv v wr => ∃ (t k: Nat) (A: Option Addr) (c: Nat) (l: List Nat),sv = .int .u64 t /\ t < 18446744073709551616 /\ k <= 64 /\ v = .slice A k c /\ Hid (l.length = k) /\ Hid (l ++ bitsL t = bitsL s) /\ Hid (OwnI wr w.heap.size (.slice A k c) (nums l)) /\ Hid (Below w.heap.size w wr)) (fun sv _ _ => (intOf sv).toNat)
 case atStart => exact ⟨s,0,none,0,[],rfl,HS.out,by omega,rfl,Lib.hid rfl,Lib.hid rfl,Lib.hid (ownI_nil _ _),Lib.hid (Below.refl _ _)⟩
 case round =>
  obtain ⟨t,k,A,c,l,rfl,ht,hk,rfl,HL,HE,HO,HB⟩:=hrel
  by_cases h0: t = 0
  ·subst h0
   have he: l = bitsL s:=by have:=HE.out; rwa [bitsL_zero,List.append_nil] at this
   have HE2:=Lib.hid he
   clear he
   go_wp2
   go_ret
   obtain ⟨A2,c2,h1,h2⟩:=HO.out.slice
   exact ⟨A2,c2,by rw [<- HE2.out,<- h1]; rfl,by rw [<- HE2.out]; exact h2,HB.out⟩
  ·have HST:=Lib.hid (bitsL_step h0 ht)
   have hne: ((t: Int) != 0) = true:=by simpa using h0
   have C:=Lib.hid (tz64_any t wr ht h0 (HT.out.via HB.out))
   have hsub: IntKind.u64.wrap ((t: Int) - 1) = ((t - 1: Nat): Int):=by rw [IntKind.wrap_u64]; omega
   have hand:=bits_and_u64_nat t (t - 1) ht (by omega)
   have hlt:=and_pred_lt h0
   obtain ⟨z,hz⟩: ∃ z,z = t &&& (t - 1):=⟨_,rfl⟩
   obtain ⟨y,hy⟩: ∃ y,y = Lib.ctz 64 t:=⟨_,rfl⟩
   rw [<- hz] at hand hlt HST
   rw [<- hy] at C HST
   have hk2: k < 64:=by
    have h1:=HE.out
    rw [HST.out] at h1
    have h2:=congrArg List.length h1
    rw [List.length_append,HL.out] at h2
    simp only [List.length_cons] at h2
    have:=HLEN.out
    omega
   have hsz:=HB.out.size
   clear hz hy h0
   go_wp2_with (first
    | (go_at_call 117; refine C.out.mono ?_; rintro e w' ⟨rfl,rfl⟩)
    | (at_builtin; refine wpList_push rfl _ _ rfl wr w.heap.size _ (nums l) (y: Int) k (by rw [nums_length]; exact HL.out) (by omega) HO.out hsz rfl rfl ?_; intro A4 c4 w4 HO4 HB4; (have HO4':=Lib.hid HO4); (have HB4':=Lib.hid HB4); clear HO4 HB4))
   go_roundw
   case rel => exact ⟨z,k + 1,A4,c4,l ++ [y],rfl,by omega,by omega,rfl,Lib.hid (by rw [List.length_append,HL.out]; rfl),Lib.hid (by rw [List.append_assoc]; exact (by rw [<- HST.out]; exact HE.out: l ++ (y :: bitsL z) = bitsL s)),Lib.hid (by rw [nums_snoc]; exact HO4'.out),Lib.hid (HB.out.trans HB4'.out)⟩
   case measure => simp [intOf]; omega
end Go.Proofs.YtlfekmbalgkmeaaGreatDoor
