import Derived.Test.YtfpnkcpjhbkgnaaGreatDoorZM9
import Derived.BigQuiet
import Derived.Test.YtfpnkcpjhbkgnaaGreatDoorZM4
import Derived.Test.YtfpnkcpjhbkgnaaGreatDoorZM2
import Derived.Test.YtfpnkcpjhbkgnaaGreatDoorZM5
set_option linter.unusedSimpArgs false
set_option linter.unusedVariables false
set_option maxRecDepth 100000
set_option maxHeartbeats 4000000
namespace Go.Proofs.YtfpnkcpjhbkgnaaGreatDoor
open Go.RowKit
open Classical in
noncomputable def schedE (W: List Int) (E: List (Int × Int)) (need: List Int) (cores: Int) (t: List (List Int)): Int :=
 if chkE W E ≠ 0 then chkE W E else if ¬ (FormOk W need cores /\ ∀ r ∈ t,(r.length: Int) = cores) then 100 else faultV E need cores.toNat t
structure SchedOk (W: List Int) (E: List (Int × Int)) (need: List Int) (cores: Nat) (t: List (List Int)): Prop where
 may: May W E
 form: FormOk W need cores
 good: Good E need cores t
theorem schedE_bad {W: List Int} {E: List (Int × Int)} {need: List Int} {cores: Int} {t: List (List Int)} (h: chkE W E ≠ 0): schedE W E need cores t = chkE W E:=by unfold schedE; rw [if_pos h]
theorem schedE_form {W: List Int} {E: List (Int × Int)} {need: List Int} {cores: Int} {t: List (List Int)} (h: chkE W E = 0) (h2: ¬ (FormOk W need cores /\ ∀ r ∈ t,(r.length: Int) = cores)): schedE W E need cores t = 100:=by unfold schedE; rw [if_neg (fun q => q h),if_pos h2]
theorem schedE_fault {W: List Int} {E: List (Int × Int)} {need: List Int} {cores: Int} {t: List (List Int)} (h: chkE W E = 0) (h2: FormOk W need cores /\ ∀ r ∈ t,(r.length: Int) = cores): schedE W E need cores t = faultV E need cores.toNat t:=by unfold schedE; rw [if_neg (fun q => q h),if_neg (fun q => q h2)]
theorem schedE_zero {W: List Int} {E: List (Int × Int)} {need: List Int} {cores: Int} {t: List (List Int)}: schedE W E need cores t = 0 ↔ ∃ c: Nat,cores = (c: Int) /\ SchedOk W E need c t:=by
 constructor
 ·intro h
  by_cases h1: chkE W E = 0
  ·by_cases h2: FormOk W need cores /\ ∀ r ∈ t,(r.length: Int) = cores
   ·rw [schedE_fault h1 h2] at h
    obtain ⟨c,rfl⟩: ∃ c: Nat,cores = (c: Int):=⟨cores.toNat,by have:=h2.1.2.2; omega⟩
    rw [Int.toNat_natCast] at h
    exact ⟨c,rfl,chkE_zero.mp h1,h2.1,(good_iff fun r hr => by have:=h2.2 r hr; omega).mpr h⟩
   ·rw [schedE_form h1 h2] at h
    cases h
  ·rw [schedE_bad h1] at h
   exact absurd h h1
 ·rintro ⟨c,rfl,hs⟩
  rw [schedE_fault (chkE_zero.mpr hs.may) ⟨hs.form,fun r hr => by rw [hs.good.rows r hr]⟩,Int.toNat_natCast]
  exact (good_iff hs.good.rows).mp hs.good
section
variable {A: Option Addr} {n c: Nat} {F: Option Addr} {m d: Nat} {W: List Int} {E: List (Int × Int)} {N: Option Addr} {nn nc: Nat} {need: List Int} {T: Option Addr} {tn tc: Nat} {t: List (List Int)}
theorem scheck_any (cores: Int) (w: World) (h: IsG w A n c F m d W E) (hS: IsS w N nn nc T tn tc need t) :
  Calls Tryz.prog 20 #[.agg #[.slice A n c,.slice F m d],.slice N nn nc,.int .i64 cores,.slice T tn tc] w fun e w' => e = .returned (.int .i64 (schedE W E need cores t)) /\ Below w.heap.size w w':=by
 have H:=Lib.hid h
 have HS:=Lib.hid hS
 obtain ⟨w0,hw0⟩: ∃ w0,w0 = w.alloc (.cells #[.slice A n c,.slice F m d] 25):=⟨_,rfl⟩
 have HW0:=Lib.hid hw0
 have hb0: Below w.heap.size w w0:=by rw [hw0]; exact below_alloc _
 have hs0: w.heap.size < w0.heap.size:=by rw [hw0]; simp
 have p0: w0.cell? ⟨w.heap.size,0,none⟩ = some (.slice A n c):=by rw [hw0,World.cell?_alloc_at _ _ _ _ rfl]; rfl
 have p1: w0.cell? ⟨w.heap.size,1,none⟩ = some (.slice F m d):=by rw [hw0,World.cell?_alloc_at _ _ _ _ rfl]; rfl
 have HB0:=Lib.hid hb0
 have HS0:=Lib.hid hs0
 have P0:=Lib.hid p0
 have P1:=Lib.hid p1
 have C1:=Lib.hid (check_done w0 (h.below hb0))
 obtain ⟨e1,he1⟩: ∃ e,e = chkE W E:=⟨_,rfl⟩
 rw [<- he1] at C1
 have HE1:=Lib.hid he1
 obtain ⟨r,hr⟩: ∃ r,r = schedE W E need cores t:=⟨_,rfl⟩
 rw [<- hr]
 have HR:=Lib.hid hr
 have CN:=Lib.hid (fun (W': World) (hS: IsS W' N nn nc T tn tc need t) => rightNeeds_any (A:=A) (n:=n) (c:=c) (F:=F) (m:=m) (d:=d) (W:=W) (nc:=nc) cores W' hS.hn (by have:=hS.ln; omega) h.hn hS.ints)
 have CR:=Lib.hid (fun (W': World) (hS: IsS W' N nn nc T tn tc need t) => rightRows_any (tc:=tc) cores W' hS.ht (by have:=hS.lt; omega) hS.rows)
 clear h hS hw0 hb0 hs0 p0 p1 he1 hr
 by_cases hz: e1 = 0
 ·subst hz
  have HZ:=Lib.hid HE1.out.symm
  by_cases h1: FormOk W need cores
  ·rw [decide_eq_true h1] at CN
   by_cases h2: ∀ r ∈ t,(r.length: Int) = cores
   ·rw [decide_eq_true h2] at CR
    obtain ⟨k,rfl⟩: ∃ k: Nat,cores = (k: Int):=⟨cores.toNat,by have:=h1.2.2; omega⟩
    have hrv: r = faultV E need k t:=by rw [HR.out,schedE_fault HZ.out ⟨h1,h2⟩,Int.toNat_natCast]
    have CF:=Lib.hid (fun (W': World) (h: IsG W' A n c F m d W E) (hS: IsS W' N nn nc T tn tc need t) => fault_any W' h hS (chkE_zero.mp HZ.out) h1 (fun r hr => by have:=h2 r hr; omega))
    rw [<- hrv] at CF
    clear h1 h2 hrv
    go_enter Tryz.func20,Tryz.ntmps20
    go_wp2_with fail
    rw [<- HW0.out]
    refine C1.out.mono ?_
    rintro e w1 ⟨rfl,b⟩
    have HB1:=Lib.hid (HB0.out.trans (b.mono HB0.out.size))
    have q0:=(b.cell HS0.out).trans P0.out
    have q1:=(b.cell HS0.out).trans P1.out
    have HQ0:=Lib.hid q0
    have HQ1:=Lib.hid q1
    have HS1:=Lib.hid (Nat.lt_of_lt_of_le HS0.out b.size)
    clear b
    go_wp2_with fail
    refine (CN.out _ (HS.out.below HB1.out)).mono ?_
    rintro e w2 ⟨rfl,b⟩
    have HB2:=Lib.hid (HB1.out.trans (b.mono HB1.out.size))
    have q0:=(b.cell HS1.out).trans HQ0.out
    have q1:=(b.cell HS1.out).trans HQ1.out
    have HS2:=Lib.hid (Nat.lt_of_lt_of_le HS1.out b.size)
    have HQ0:=Lib.hid q0
    have HQ1:=Lib.hid q1
    clear b
    go_wp2_with fail
    refine (CR.out _ (HS.out.below HB2.out)).mono ?_
    rintro e w3 ⟨rfl,b⟩
    have HB3:=Lib.hid (HB2.out.trans (b.mono HB2.out.size))
    have q0:=(b.cell HS2.out).trans HQ0.out
    have q1:=(b.cell HS2.out).trans HQ1.out
    clear b
    go_wp2_with fail
    refine (CF.out _ (H.out.below HB3.out) (HS.out.below HB3.out)).mono ?_
    rintro e w4 ⟨rfl,b⟩
    have HB4:=Lib.hid (HB3.out.trans (b.mono HB3.out.size))
    clear b
    go_wp2
    go_ret
    exact ⟨rfl,HB4.out⟩
   ·rw [decide_eq_false h2] at CR
    obtain rfl: r = 100:=HR.out.trans (schedE_form HZ.out fun q => h2 q.2)
    clear h1 h2
    go_enter Tryz.func20,Tryz.ntmps20
    go_wp2_with fail
    rw [<- HW0.out]
    refine C1.out.mono ?_
    rintro e w1 ⟨rfl,b⟩
    have HB1:=Lib.hid (HB0.out.trans (b.mono HB0.out.size))
    have q0:=(b.cell HS0.out).trans P0.out
    have q1:=(b.cell HS0.out).trans P1.out
    clear b
    go_wp2_with fail
    refine (CN.out _ (HS.out.below HB1.out)).mono ?_
    rintro e w2 ⟨rfl,b⟩
    have HB2:=Lib.hid (HB1.out.trans (b.mono HB1.out.size))
    clear b q0 q1
    go_wp2_with fail
    refine (CR.out _ (HS.out.below HB2.out)).mono ?_
    rintro e w3 ⟨rfl,b⟩
    have HB3:=Lib.hid (HB2.out.trans (b.mono HB2.out.size))
    clear b
    go_wp2
    go_ret
    exact ⟨rfl,HB3.out⟩
  ·rw [decide_eq_false h1] at CN
   obtain rfl: r = 100:=HR.out.trans (schedE_form HZ.out fun q => h1 q.1)
   clear h1
   go_enter Tryz.func20,Tryz.ntmps20
   go_wp2_with fail
   rw [<- HW0.out]
   refine C1.out.mono ?_
   rintro e w1 ⟨rfl,b⟩
   have HB1:=Lib.hid (HB0.out.trans (b.mono HB0.out.size))
   have q0:=(b.cell HS0.out).trans P0.out
   have q1:=(b.cell HS0.out).trans P1.out
   clear b
   go_wp2_with fail
   refine (CN.out _ (HS.out.below HB1.out)).mono ?_
   rintro e w2 ⟨rfl,b⟩
   have HB2:=Lib.hid (HB1.out.trans (b.mono HB1.out.size))
   clear b q0 q1
   go_wp2
   go_ret
   exact ⟨rfl,HB2.out⟩
 ·have hne: (e1 == 0) = false:=by simpa using hz
  obtain rfl: r = e1:=by rw [HR.out,HE1.out]; exact schedE_bad (by rw [<- HE1.out]; exact hz)
  clear hz
  go_enter Tryz.func20,Tryz.ntmps20
  go_wp2_with fail
  rw [<- HW0.out]
  refine C1.out.mono ?_
  rintro e w1 ⟨rfl,b⟩
  have HB1:=Lib.hid (HB0.out.trans (b.mono HB0.out.size))
  clear b
  go_wp2
  go_ret
  exact ⟨rfl,HB1.out⟩
end
section
variable {A: Option Addr} {n c: Nat} {F: Option Addr} {m d: Nat} {W: List Int} {E: List (Int × Int)} {N: Option Addr} {nn nc: Nat} {need: List Int} {T: Option Addr} {tn tc: Nat} {t: List (List Int)}
end
section
variable {A: Option Addr} {n c: Nat} {F: Option Addr} {m d: Nat} {W: List Int} {E: List (Int × Int)} {N: Option Addr} {nn nc: Nat} {need: List Int} {T: Option Addr} {tn tc: Nat} {t: List (List Int)}
end
section
variable {A: Option Addr} {n c: Nat} {F: Option Addr} {m d: Nat} {W: List Int} {E: List (Int × Int)} {N: Option Addr} {nn nc: Nat} {need: List Int} {T: Option Addr} {tn tc: Nat} {t: List (List Int)}
theorem own_g10 {w: World} (h: IsG w A n c F m d W E) :
  Calls Tryz.prog 12 #[.agg #[.slice A n c,.slice F m d]] w fun e w' => ∃ A' c' F' d',e = .returned (.agg #[.slice A' n c',.slice F' m d']) /\ IsG w' A' n c' F' m d' W E /\ Below w.heap.size w w':=by
 refine (own_any A F n c m d W E w h.hn (by have:=h.ln; omega) h.hm (by have:=h.lm; omega) h.ints h.pairs h.hA h.hF).mono ?_
 rintro e w' ⟨u,v,rfl,hu,hv,b⟩
 obtain ⟨A',c',F',d',rfl,rfl,hg⟩:=own_isG (h.tab.via b) hu hv (by rw [h.hn]; exact h.ln) (by rw [h.hm]; exact h.lm)
 rw [h.hn,h.hm] at hg ⊢
 exact ⟨A',c',F',d',rfl,hg,b⟩
structure InG (w: World) (A: Option Addr) (n c: Nat) (F: Option Addr) (m d: Nat) (W: List Int) (E: List (Int × Int)): Prop where
 hn: W.length = n
 hm: E.length = m
 ln: n <= 9223372036854775807
 lm: m <= 9223372036854775807
 ints: Ints w w.heap.size A W
 pairs: Pairs w w.heap.size F E
 hA: A = none -> n = 0 /\ c = 0
 hF: F = none -> m = 0 /\ d = 0
theorem InG.isG {w: World} (hT: Tab64 w) (h: InG w A n c F m d W E) (hn: n <= 70) (hm: m <= 300): IsG w A n c F m d W E:=⟨h.hn,h.hm,by omega,by omega,h.ints,h.pairs,h.hA,h.hF,hT⟩
structure InS (w: World) (N: Option Addr) (nn nc: Nat) (T: Option Addr) (tn tc: Nat) (need: List Int) (t: List (List Int)): Prop where
 hn: need.length = nn
 ht: t.length = tn
 ln: nn <= 9223372036854775807
 lt: tn <= 9223372036854775807
 lr: ∀ r ∈ t,r.length <= 9223372036854775807
 ints: Ints w w.heap.size N need
 rows: Trc w w.heap.size T t
 hN: N = none -> nn = 0 /\ nc = 0
 hT: T = none -> tn = 0 /\ tc = 0
 cT: tn <= tc
theorem IsS.taken {w: World} (h: IsS w N nn nc T tn tc need t) {k: Nat} (hk: k <= tn): IsS w N nn nc T k tc need (t.take k) \/ (T = none /\ k = 0):=by
 by_cases hT: T = none
 ·exact .inr ⟨hT,by have:=(h.hT hT).1; omega⟩
 ·exact .inl ⟨h.hn,by rw [List.length_take,h.ht]; omega,h.ln,by have:=h.lt; omega,fun r hr => h.lr r (List.mem_of_mem_take hr),h.ints,h.rows.take k,h.hN,fun e => absurd e hT⟩
end
end Go.Proofs.YtfpnkcpjhbkgnaaGreatDoor
