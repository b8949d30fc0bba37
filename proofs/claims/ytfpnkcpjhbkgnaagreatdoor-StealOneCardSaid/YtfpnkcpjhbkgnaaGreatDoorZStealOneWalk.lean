import Derived.Test.YtfpnkcpjhbkgnaaGreatDoorZM38
set_option linter.unusedSimpArgs false
set_option linter.unusedVariables false
set_option maxRecDepth 100000
set_option maxHeartbeats 16000000
namespace Go.Proofs.YtfpnkcpjhbkgnaaGreatDoor
open Go Go.RowKit
section
variable {A: Option Addr} {n c: Nat} {F: Option Addr} {m d: Nat} {W: List Int} {E: List (Int × Int)} {N: Option Addr} {nn nc: Nat} {need: List Int} {P: Option Addr} {nP cP: Nat} {picks: List Int}
end
theorem take_sum_le2 {l : List Int} (h : ∀ z ∈ l, 0 <= z) (k : Nat) : 0 <= (l.take k).sum /\ (l.take k).sum <= l.sum := by
  induction l generalizing k with
  | nil => simp
  | cons z l ih =>
    have hz := h z List.mem_cons_self
    cases k with
    | zero =>
      have := (ih (fun y hy => h y (List.mem_cons_of_mem _ hy)) l.length)
      rw [List.take_length] at this
      simp only [List.take_zero, List.sum_nil, List.sum_cons]
      omega
    | succ k =>
      have := ih (fun y hy => h y (List.mem_cons_of_mem _ hy)) k
      rw [List.take_succ_cons, List.sum_cons, List.sum_cons]
      omega
theorem take_sum_succ {l: List Int} {k: Nat} {z: Int} (h: l[k]? = some z): (l.take (k + 1)).sum = (l.take k).sum + z:=by
 obtain ⟨hk,rfl⟩:=List.getElem?_eq_some_iff.1 h
 rw [List.take_succ_eq_append_getElem hk,List.sum_append]
 simp
section
variable {A: Option Addr} {n c: Nat} {F: Option Addr} {m d: Nat} {W: List Int} {E: List (Int × Int)} {N: Option Addr} {nn nc: Nat} {need: List Int} {P: Option Addr} {nP cP: Nat} {picks: List Int}
theorem sone_many (w0 : World) (cores : Int) (hT : Tab64 w0) (hg : InG w0 A n c F m d W E) (hs : InNL w0 N nn nc need) (hp : InNL w0 P nP cP picks) (h : ¬ (((n <= 70 /\ m <= 300) /\ nn <= 70 /\ litV 300 need = true) /\ nP <= 600)) : Calls Tryz.prog 7 #[.agg #[.slice A n c, .slice F m d], .slice N nn nc, .int .i64 cores, .slice P nP cP] w0 fun e w' => e = .returned (.bool true) /\ Below w0.heap.size w0 w' := by
  have HTW := Lib.hid (fun W (h : Below w0.heap.size w0 W) => Tab64.via hT h)
  have B0 := Lib.hid (BxB.start (Below.refl w0.heap.size w0) A n c F m d)
  by_cases hd : n <= 70 /\ m <= 300
  · have F1 := Lib.hid (fun W => few_yes A F n c m d W hd.1 hd.2)
    by_cases h70 : nn <= 70
    · cases hl : litV 300 need with
      | false =>
        have F3 := Lib.hid (fun W' (hb : Below w0.heap.size w0 W') => little_any (nc := nc) W' hs.hn (by omega : nn <= 400) ((hs.ints.below hb).more hb.size))
        rw [hl] at F3
        have h70a : decide (70 < nn) = false := decide_eq_false (by omega)
        have h70b : decide ((70 : Int) < (nn : Int)) = false := decide_eq_false (by omega)
        clear hg hs hp h hd hT
        go_enter Tryz.func7, Tryz.ntmps7
        go_wp2_with fail
        refine (awakeS_any _ (HTW.out _ B0.out.bel)).mono ?_
        rintro e y1 ⟨rfl, b⟩
        have B1 := Lib.hid (B0.out.next b)
        clear b
        obtain ⟨q0, q1⟩ := B1.out.cells
        go_wp2_with fail
        refine (F1.out _).mono ?_
        rintro e y2 ⟨rfl, b⟩
        have B2 := Lib.hid (B1.out.next b)
        clear b q0 q1
        go_wp2_with fail
        refine (F3.out _ B2.out.bel).mono ?_
        rintro e y2' ⟨rfl, hww⟩
        replace hww := hww.symm
        subst hww
        go_wp2_with fail
        refine (awakeS_any _ (HTW.out _ B2.out.bel)).mono ?_
        rintro e y3 ⟨rfl, b⟩
        have B3 := Lib.hid (B2.out.next b)
        clear b
        go_wp2_with fail
        go_ret
        exact ⟨rfl, B3.out.bel⟩
      | true =>
        have hPM : ¬ nP <= 600 := fun q => h ⟨⟨hd, h70, hl⟩, q⟩
        have F3 := Lib.hid (fun W' (hb : Below w0.heap.size w0 W') => little_any (nc := nc) W' hs.hn (by omega : nn <= 400) ((hs.ints.below hb).more hb.size))
        rw [hl] at F3
        have h70a : decide (70 < nn) = false := decide_eq_false (by omega)
        have h70b : decide ((70 : Int) < (nn : Int)) = false := decide_eq_false (by omega)
        have h6a : decide (600 < nP) = true := decide_eq_true (by omega)
        have h6b : decide ((600 : Int) < (nP : Int)) = true := decide_eq_true (by omega)
        have hpp := hp.ln
        clear hg hs hp h hd hT hl
        go_enter Tryz.func7, Tryz.ntmps7
        go_wp2_with fail
        refine (awakeS_any _ (HTW.out _ B0.out.bel)).mono ?_
        rintro e y1 ⟨rfl, b⟩
        have B1 := Lib.hid (B0.out.next b)
        clear b
        obtain ⟨q0, q1⟩ := B1.out.cells
        go_wp2_with fail
        refine (F1.out _).mono ?_
        rintro e y2 ⟨rfl, b⟩
        have B2 := Lib.hid (B1.out.next b)
        clear b q0 q1
        go_wp2_with fail
        refine (F3.out _ B2.out.bel).mono ?_
        rintro e y2' ⟨rfl, hww⟩
        replace hww := hww.symm
        subst hww
        go_wp2_with fail
        refine (awakeS_any _ (HTW.out _ B2.out.bel)).mono ?_
        rintro e y3 ⟨rfl, b⟩
        have B3 := Lib.hid (B2.out.next b)
        clear b
        go_wp2_with fail
        go_ret
        exact ⟨rfl, B3.out.bel⟩
    · have h70a : decide (70 < nn) = true := decide_eq_true (by omega)
      have h70b : decide ((70 : Int) < (nn : Int)) = true := decide_eq_true (by omega)
      have hnn := hs.ln
      clear hg hs hp h hd hT
      go_enter Tryz.func7, Tryz.ntmps7
      go_wp2_with fail
      refine (awakeS_any _ (HTW.out _ B0.out.bel)).mono ?_
      rintro e y1 ⟨rfl, b⟩
      have B1 := Lib.hid (B0.out.next b)
      clear b
      obtain ⟨q0, q1⟩ := B1.out.cells
      go_wp2_with fail
      refine (F1.out _).mono ?_
      rintro e y2 ⟨rfl, b⟩
      have B2 := Lib.hid (B1.out.next b)
      clear b q0 q1
      go_wp2_with fail
      refine (awakeS_any _ (HTW.out _ B2.out.bel)).mono ?_
      rintro e y3 ⟨rfl, b⟩
      have B3 := Lib.hid (B2.out.next b)
      clear b
      go_wp2_with fail
      go_ret
      exact ⟨rfl, B3.out.bel⟩
  · have F1 := Lib.hid (fun W => few_no A F n c m d W hg.ln hg.lm hd)
    clear hg hs hp h hd hT
    go_enter Tryz.func7, Tryz.ntmps7
    go_wp2_with fail
    refine (awakeS_any _ (HTW.out _ B0.out.bel)).mono ?_
    rintro e y1 ⟨rfl, b⟩
    have B1 := Lib.hid (B0.out.next b)
    clear b
    obtain ⟨q0, q1⟩ := B1.out.cells
    go_wp2_with fail
    refine (F1.out _).mono ?_
    rintro e y2 ⟨rfl, b⟩
    have B2 := Lib.hid (B1.out.next b)
    clear b q0 q1
    go_wp2_with fail
    refine (awakeS_any _ (HTW.out _ B2.out.bel)).mono ?_
    rintro e y3 ⟨rfl, b⟩
    have B3 := Lib.hid (B2.out.next b)
    clear b
    go_wp2_with fail
    go_ret
    exact ⟨rfl, B3.out.bel⟩
theorem sone_good (w0: World) (kc: Nat) (hG: IsG w0 A n c F m d W E) (hs: InNL w0 N nn nc need) (hp: InNL w0 P nP cP picks) (l1: n <= 70) (l2: m <= 300) (l3: nn <= 70) (l4: nP <= 600) (hl: litV 300 need = true) (h0: newE W E need (1: Nat) = 0) (hk0: newE W E need kc = 0): Calls Tryz.prog 7 #[.agg #[.slice A n c,.slice F m d],.slice N nn nc,.int .i64 kc,.slice P nP cP] w0 fun e w' => e = .returned (.bool true) /\ Below w0.heap.size w0 w':=by
 have hz1:=(newE_zero.mp h0).2.2.1
 have HSUM: Hid (need.sum <= 300):=Lib.hid (new_sum hl h0)
 have HZ: Hid (∀ z ∈ need,1 <= z /\ z <= 1000):=Lib.hid hz1
 have HSL: Hid (∀ k,0 <= (need.take k).sum /\ (need.take k).sum <= 300):=Lib.hid (fun k => by
  have h1:=take_sum_le2 (fun z hz => by have:=(hz1 z hz).1; omega) k
  have h2:=new_sum hl h0
  omega)
 obtain ⟨sm,hsm⟩: ∃ z,need.sum = z:=⟨_,rfl⟩
 have hsm3: sm <= 300:=by rw [<- hsm]; exact new_sum hl h0
 have hnn2:=(newE_zero.mp h0).2.1
 have k1:=traceG_ok (m:=1) (picks:=picks) h0
 have k2:=traceG_ok (m:=kc) (picks:=picks) hk0
 obtain ⟨t,ht⟩: ∃ t,traceG W.length 1 E need picks = t:=⟨_,rfl⟩
 obtain ⟨u,hu⟩: ∃ u,traceG W.length kc E need picks = u:=⟨_,rfl⟩
 have tR: Hid (t.length <= 300 /\ ∀ x ∈ t,x.length <= 400):=Lib.hid (by rw [<- ht]; exact traceG_small h0 (new_sum hl h0))
 have uR: Hid (u.length <= 300 /\ ∀ x ∈ u,x.length <= 400):=Lib.hid (by rw [<- hu]; exact traceG_small hk0 (new_sum hl h0))
 rw [ht] at k1
 rw [hu] at k2
 have HBT: Hid ((busyT t: Int) = sm):=Lib.hid (by rw [<- hsm]; exact k1.busy hz1 hnn2)
 have HBU: Hid ((busyT u: Int) = sm):=Lib.hid (by rw [<- hsm]; exact k2.busy hz1 hnn2)
 have HAL: Hid ((t.length: Int) = sm):=Lib.hid (by rw [<- hsm]; exact RunOk.alone k1 hz1 hnn2)
 have HUL: Hid ((u.length: Int) <= sm):=Lib.hid (by rw [<- hsm]; exact k2.len)
 have tH:=Lib.hid ht
 have uH:=Lib.hid hu
 have HE1:=Lib.hid h0
 have HE2:=Lib.hid hk0
 have HSS:=Lib.hid hsm
 clear hz1 ht hu k1 k2 hsm h0 hk0 hnn2
 have HTW:=Lib.hid (fun W (h: Below w0.heap.size w0 W) => Tab64.via hG.tab h)
 have HG:=Lib.hid (fun W' (h: Below w0.heap.size w0 W') => hG.below h)
 have HI:=Lib.hid (fun W' (h: Below w0.heap.size w0 W') => (hs.ints.below h).more h.size)
 have HL:=Lib.hid hs.hn
 have HA:=Lib.hid hs.hN
 have HIP:=Lib.hid (fun W' (h: Below w0.heap.size w0 W') => (hp.ints.below h).more h.size)
 have HLP:=Lib.hid hp.hn
 have HAP:=Lib.hid hp.hN
 have B0:=Lib.hid (BxB.start (Below.refl w0.heap.size w0) A n c F m d)
 have F1:=Lib.hid (fun W => few_yes A F n c m d W l1 l2)
 have F3:=Lib.hid (fun W' (hb: Below w0.heap.size w0 W') => little_any (nc:=nc) W' hs.hn (by omega: nn <= 400) ((hs.ints.below hb).more hb.size))
 rw [hl] at F3
 have h70a: decide (70 < nn) = false:=decide_eq_false (by omega)
 have h70b: decide ((70: Int) < (nn: Int)) = false:=decide_eq_false (by omega)
 have h6a: decide (600 < nP) = false:=decide_eq_false (by omega)
 have h6b: decide ((600: Int) < (nP: Int)) = false:=decide_eq_false (by omega)
 clear hG hs hp hl
 go_enter Tryz.func7,Tryz.ntmps7
 go_wp2_with fail
 refine (awakeS_any _ (HTW.out _ B0.out.bel)).mono ?_
 rintro e y1 ⟨rfl,b⟩
 have B1:=Lib.hid (B0.out.next b)
 clear b
 obtain ⟨q0,q1⟩:=B1.out.cells
 go_wp2_with fail
 refine (F1.out _).mono ?_
 rintro e y2 ⟨rfl,b⟩
 have B2:=Lib.hid (B1.out.next b)
 clear b q0 q1
 go_wp2_with fail
 refine (F3.out _ B2.out.bel).mono ?_
 rintro e y2' ⟨rfl,hww⟩
 replace hww:=hww.symm
 subst hww
 obtain ⟨q0,q1⟩:=B2.out.cells
 go_wp2_with fail
 refine (own_g10 (HG.out _ B2.out.bel)).mono ?_
 rintro e y3 ⟨Ag3,cg3,Fg3,dg3,rfl,hg1,b7b⟩
 have B3:=Lib.hid (B2.out.next b7b)
 have HG3:=Lib.hid hg1
 clear hg1 b7b q0 q1
 go_wp2_with fail
 refine (ints13_any _ N nc nn need HL.out (by omega) (HI.out _ B3.out.bel) HA.out).mono ?_
 rintro e y4 ⟨An4,cn4,rfl,hO,hC,hN,b7b⟩
 have B4:=Lib.hid (B3.out.next b7b)
 have HG4:=Lib.hid (HG3.out.below b7b)
 have HJ4:=Lib.hid hO
 have HJC4:=Lib.hid hC
 have HJN4:=Lib.hid hN
 clear hO hC hN b7b HG3 B3
 go_wp2_with fail
 refine (ints13_any _ P cP nP picks HLP.out (by omega) (HIP.out _ B4.out.bel) HAP.out).mono ?_
 rintro e y5 ⟨An5,cn5,rfl,hO,hC,hN,b7b⟩
 have B5:=Lib.hid (B4.out.next b7b)
 have HG5:=Lib.hid (HG4.out.below b7b)
 have HK5:=Lib.hid hO
 have HKC5:=Lib.hid hC
 have HKN5:=Lib.hid hN
 have HJ5:=Lib.hid (OwnI.below HJ4.out b7b)
 clear HJ4
 clear hO hC hN b7b HG4 B4
 go_wp2_with fail
 refine (srun_yes (m:=1) (cP:=cn5) y5 HG5.out.tab HG5.out HL.out (by omega) (OwnI.ints HJ5.out) HJN4.out HLP.out (by omega) (OwnI.ints HK5.out) HKC5.out HE1.out HSUM.out).mono ?_
 rintro e y6 ⟨v,rfl,⟨T6,tc6,rfl,ht,hN⟩,b⟩
 have B6a:=Lib.hid (B5.out.next b)
 have HXB6:=Lib.hid b
 rw [tH.out] at ht hN ⊢
 clear b HG5 HJ5 HK5 HJC4 HJN4 HKC5 HKN5 B5
 obtain ⟨tn,htn⟩: ∃ k,t.length = k:=⟨_,rfl⟩
 rw [htn] at hN ⊢
 have tn3: tn <= 300:=by have:=tR.out.1; omega
 have tnN:=Lib.hid htn
 have B6: Hid (BxT w0 A n c F m d T6 tn tc6 t y6):=Lib.hid ⟨B6a.out,ht,htn,tn3,tR.out.2,hN⟩
 clear ht hN htn B6a HXB6
 obtain ⟨q0,q1⟩:=B6.out.cells
 go_wp2_with fail
 refine (own_g10 (HG.out _ B6.out.bel)).mono ?_
 rintro e y7 ⟨Ag7,cg7,Fg7,dg7,rfl,hg1,b7b⟩
 have B7:=Lib.hid (B6.out.next b7b)
 have HG7:=Lib.hid hg1
 clear hg1 b7b q0 q1
 go_wp2_with fail
 refine (ints13_any _ N nc nn need HL.out (by omega) (HI.out _ B7.out.bel) HA.out).mono ?_
 rintro e y8 ⟨An8,cn8,rfl,hO,hC,hN,b7b⟩
 have B8:=Lib.hid (B7.out.next b7b)
 have HG8:=Lib.hid (HG7.out.below b7b)
 have HJ8:=Lib.hid hO
 have HJC8:=Lib.hid hC
 have HJN8:=Lib.hid hN
 clear hO hC hN b7b HG7 B7
 go_wp2_with fail
 refine (ints13_any _ P cP nP picks HLP.out (by omega) (HIP.out _ B8.out.bel) HAP.out).mono ?_
 rintro e y9 ⟨An9,cn9,rfl,hO,hC,hN,b7b⟩
 have B9:=Lib.hid (B8.out.next b7b)
 have HG9:=Lib.hid (HG8.out.below b7b)
 have HK9:=Lib.hid hO
 have HKC9:=Lib.hid hC
 have HKN9:=Lib.hid hN
 have HJ9:=Lib.hid (OwnI.below HJ8.out b7b)
 clear HJ8
 clear hO hC hN b7b HG8 B8
 go_wp2_with fail
 refine (srun_yes (m:=kc) (cP:=cn9) y9 HG9.out.tab HG9.out HL.out (by omega) (OwnI.ints HJ9.out) HJN8.out HLP.out (by omega) (OwnI.ints HK9.out) HKC9.out HE2.out HSUM.out).mono ?_
 rintro e y10 ⟨v,rfl,⟨T10,tc10,rfl,ht,hN⟩,b⟩
 have B10a:=Lib.hid (B9.out.next b)
 have HXB10:=Lib.hid b
 rw [uH.out] at ht hN ⊢
 clear b HG9 HJ9 HK9 HJC8 HJN8 HKC9 HKN9 B9
 obtain ⟨un,htn⟩: ∃ k,u.length = k:=⟨_,rfl⟩
 rw [htn] at hN ⊢
 have un3: un <= 300:=by have:=uR.out.1; omega
 have unN:=Lib.hid htn
 have B10: Hid (BxT w0 A n c F m d T6 tn tc6 t y10):=Lib.hid ((B10a.out).next (Below.refl _ _))
 have U10: Hid (Trc y10 y10.heap.size T10 u):=Lib.hid ht
 clear ht hN htn B10a HXB10
 go_wp2
 go_loopw [15,16] (fun sv v wr => ∃ (k: Nat) (s: Int),k <= nn /\ v = .int .i64 k /\ sv = .int .i64 s /\ (0 <= s /\ s <= 300 /\ Hid ((need.take k).sum = s)) /\ y10 = wr) (fun _ v _ => nn - (intOf v).toNat)
 case atStart => exact ⟨0,0,Nat.zero_le _,rfl,rfl,⟨by decide,by decide,Lib.hid (by simp)⟩,rfl⟩
 case round =>
  obtain ⟨k,s,hk,rfl,rfl,⟨hs0,hs1,HSM⟩,rfl⟩:=hrel
  by_cases hlt: k < nn
  ·obtain ⟨bz,oz,z,hAz,hbz,hzz,hcz⟩:=(HI.out _ B10.out.bel).at_ (k:=k) (by rw [HL.out]; exact hlt)
   subst hAz
   have hzr:=HZ.out z (List.mem_of_getElem? hzz)
   have hsm:=take_sum_succ hzz
   rw [HSM.out] at hsm
   have hst:=HSL.out (k + 1)
   rw [hsm] at hst
   have HSM2:=Lib.hid hsm
   clear hzz hbz hsm HSM
   go_wp2
   go_roundw
   case rel => exact ⟨k + 1,s + z,by omega,by go_num,by go_num,⟨by omega,by omega,HSM2⟩,(by first | trivial | rfl)⟩
   case measure => simp [intOf]; omega
  ·obtain rfl: nn = k:=by omega
   obtain rfl: sm = s:=by
    rw [<- HSM.out,List.take_of_length_le (by rw [HL.out]; exact Nat.le_refl _),HSS.out]
   have hta: ((tn: Int) == sm) = true:=by have:=HAL.out; rw [tnN.out] at this; simp; omega
   have hsa: (sm == sm) = true:=by simp
   have hua: decide ((un: Int) <= sm) = true:=decide_eq_true (by have:=HUL.out; rw [unN.out] at this; exact this)
   have hz0: ((0: Int) != 0) = false:=by decide
   clear HSM
   go_wp2_with fail
   refine (busy_any _ tnN.out (by omega) tR.out.2 B10.out.t).mono ?_
   rintro e wb ⟨rfl,hww⟩
   replace hww:=hww.symm
   subst hww
   rw [HBT.out]
   go_wp2_with fail
   refine (busy_any _ unN.out (by omega) uR.out.2 U10.out).mono ?_
   rintro e wb ⟨rfl,hww⟩
   replace hww:=hww.symm
   subst hww
   rw [HBU.out]
   go_wp2_with fail
   go_ret
   exact ⟨rfl,B10.out.bel⟩
theorem sone_half (w0: World) (cores: Int) (hG: IsG w0 A n c F m d W E) (hs: InNL w0 N nn nc need) (hp: InNL w0 P nP cP picks) (l1: n <= 70) (l2: m <= 300) (l3: nn <= 70) (l4: nP <= 600) (hl: litV 300 need = true) (h0: newE W E need (1: Nat) = 0) (hk0: ¬ newE W E need cores = 0): Calls Tryz.prog 7 #[.agg #[.slice A n c,.slice F m d],.slice N nn nc,.int .i64 cores,.slice P nP cP] w0 fun e w' => e = .returned (.bool true) /\ Below w0.heap.size w0 w':=by
 have HSUM: Hid (need.sum <= 300):=Lib.hid (new_sum hl h0)
 obtain ⟨t,ht⟩: ∃ t,traceG W.length 1 E need picks = t:=⟨_,rfl⟩
 have tR: Hid (t.length <= 300 /\ ∀ x ∈ t,x.length <= 400):=Lib.hid (by rw [<- ht]; exact traceG_small h0 (new_sum hl h0))
 have tH:=Lib.hid ht
 have HE1:=Lib.hid h0
 obtain ⟨z2,hz2⟩: ∃ z,newE W E need cores = z:=⟨_,rfl⟩
 rw [hz2] at hk0
 have HE2:=Lib.hid hz2
 have HN2:=Lib.hid hk0
 have hnb: (z2 != 0) = true:=bne_iff_ne.mpr hk0
 clear ht h0 hk0 hz2
 have HTW:=Lib.hid (fun W (h: Below w0.heap.size w0 W) => Tab64.via hG.tab h)
 have HG:=Lib.hid (fun W' (h: Below w0.heap.size w0 W') => hG.below h)
 have HI:=Lib.hid (fun W' (h: Below w0.heap.size w0 W') => (hs.ints.below h).more h.size)
 have HL:=Lib.hid hs.hn
 have HA:=Lib.hid hs.hN
 have HIP:=Lib.hid (fun W' (h: Below w0.heap.size w0 W') => (hp.ints.below h).more h.size)
 have HLP:=Lib.hid hp.hn
 have HAP:=Lib.hid hp.hN
 have B0:=Lib.hid (BxB.start (Below.refl w0.heap.size w0) A n c F m d)
 have F1:=Lib.hid (fun W => few_yes A F n c m d W l1 l2)
 have F3:=Lib.hid (fun W' (hb: Below w0.heap.size w0 W') => little_any (nc:=nc) W' hs.hn (by omega: nn <= 400) ((hs.ints.below hb).more hb.size))
 rw [hl] at F3
 have h70a: decide (70 < nn) = false:=decide_eq_false (by omega)
 have h70b: decide ((70: Int) < (nn: Int)) = false:=decide_eq_false (by omega)
 have h6a: decide (600 < nP) = false:=decide_eq_false (by omega)
 have h6b: decide ((600: Int) < (nP: Int)) = false:=decide_eq_false (by omega)
 clear hG hs hp hl
 go_enter Tryz.func7,Tryz.ntmps7
 go_wp2_with fail
 refine (awakeS_any _ (HTW.out _ B0.out.bel)).mono ?_
 rintro e y1 ⟨rfl,b⟩
 have B1:=Lib.hid (B0.out.next b)
 clear b
 obtain ⟨q0,q1⟩:=B1.out.cells
 go_wp2_with fail
 refine (F1.out _).mono ?_
 rintro e y2 ⟨rfl,b⟩
 have B2:=Lib.hid (B1.out.next b)
 clear b q0 q1
 go_wp2_with fail
 refine (F3.out _ B2.out.bel).mono ?_
 rintro e y2' ⟨rfl,hww⟩
 replace hww:=hww.symm
 subst hww
 obtain ⟨q0,q1⟩:=B2.out.cells
 go_wp2_with fail
 refine (own_g10 (HG.out _ B2.out.bel)).mono ?_
 rintro e y3 ⟨Ag3,cg3,Fg3,dg3,rfl,hg1,b7b⟩
 have B3:=Lib.hid (B2.out.next b7b)
 have HG3:=Lib.hid hg1
 clear hg1 b7b q0 q1
 go_wp2_with fail
 refine (ints13_any _ N nc nn need HL.out (by omega) (HI.out _ B3.out.bel) HA.out).mono ?_
 rintro e y4 ⟨An4,cn4,rfl,hO,hC,hN,b7b⟩
 have B4:=Lib.hid (B3.out.next b7b)
 have HG4:=Lib.hid (HG3.out.below b7b)
 have HJ4:=Lib.hid hO
 have HJC4:=Lib.hid hC
 have HJN4:=Lib.hid hN
 clear hO hC hN b7b HG3 B3
 go_wp2_with fail
 refine (ints13_any _ P cP nP picks HLP.out (by omega) (HIP.out _ B4.out.bel) HAP.out).mono ?_
 rintro e y5 ⟨An5,cn5,rfl,hO,hC,hN,b7b⟩
 have B5:=Lib.hid (B4.out.next b7b)
 have HG5:=Lib.hid (HG4.out.below b7b)
 have HK5:=Lib.hid hO
 have HKC5:=Lib.hid hC
 have HKN5:=Lib.hid hN
 have HJ5:=Lib.hid (OwnI.below HJ4.out b7b)
 clear HJ4
 clear hO hC hN b7b HG4 B4
 go_wp2_with fail
 refine (srun_yes (m:=1) (cP:=cn5) y5 HG5.out.tab HG5.out HL.out (by omega) (OwnI.ints HJ5.out) HJN4.out HLP.out (by omega) (OwnI.ints HK5.out) HKC5.out HE1.out HSUM.out).mono ?_
 rintro e y6 ⟨v,rfl,⟨T6,tc6,rfl,ht,hN⟩,b⟩
 have B6a:=Lib.hid (B5.out.next b)
 have HXB6:=Lib.hid b
 rw [tH.out] at ht hN ⊢
 clear b HG5 HJ5 HK5 HJC4 HJN4 HKC5 HKN5 B5
 obtain ⟨tn,htn⟩: ∃ k,t.length = k:=⟨_,rfl⟩
 rw [htn] at hN ⊢
 have tn3: tn <= 300:=by have:=tR.out.1; omega
 have tnN:=Lib.hid htn
 have B6: Hid (BxT w0 A n c F m d T6 tn tc6 t y6):=Lib.hid ⟨B6a.out,ht,htn,tn3,tR.out.2,hN⟩
 clear ht hN htn B6a HXB6
 obtain ⟨q0,q1⟩:=B6.out.cells
 go_wp2_with fail
 refine (own_g10 (HG.out _ B6.out.bel)).mono ?_
 rintro e y7 ⟨Ag7,cg7,Fg7,dg7,rfl,hg1,b7b⟩
 have B7:=Lib.hid (B6.out.next b7b)
 have HG7:=Lib.hid hg1
 clear hg1 b7b q0 q1
 go_wp2_with fail
 refine (ints13_any _ N nc nn need HL.out (by omega) (HI.out _ B7.out.bel) HA.out).mono ?_
 rintro e y8 ⟨An8,cn8,rfl,hO,hC,hN,b7b⟩
 have B8:=Lib.hid (B7.out.next b7b)
 have HG8:=Lib.hid (HG7.out.below b7b)
 have HJ8:=Lib.hid hO
 have HJC8:=Lib.hid hC
 have HJN8:=Lib.hid hN
 clear hO hC hN b7b HG7 B7
 go_wp2_with fail
 refine (ints13_any _ P cP nP picks HLP.out (by omega) (HIP.out _ B8.out.bel) HAP.out).mono ?_
 rintro e y9 ⟨An9,cn9,rfl,hO,hC,hN,b7b⟩
 have B9:=Lib.hid (B8.out.next b7b)
 have HG9:=Lib.hid (HG8.out.below b7b)
 have HK9:=Lib.hid hO
 have HKC9:=Lib.hid hC
 have HKN9:=Lib.hid hN
 have HJ9:=Lib.hid (OwnI.below HJ8.out b7b)
 clear HJ8
 clear hO hC hN b7b HG8 B8
 go_wp2_with fail
 refine (srun_no y9 _ HG9.out HL.out (by omega) (OwnI.ints HJ9.out) HJN8.out HE2.out HN2.out).mono ?_
 rintro e y10 ⟨rfl,b⟩
 have B10:=Lib.hid (B9.out.next b)
 clear b HG9 HJ9 HK9 HJC8 HJN8 HKC9 HKN9 B9
 go_wp2
 go_loopw [15,16] (fun sv v wr => ∃ (k: Nat) (s: Int),k <= nn /\ v = .int .i64 k /\ sv = .int .i64 s /\ (True) /\ y10 = wr) (fun _ v _ => nn - (intOf v).toNat)
 case atStart => exact ⟨0,0,Nat.zero_le _,rfl,rfl,trivial,rfl⟩
 case round =>
  obtain ⟨k,s,hk,rfl,rfl,-,rfl⟩:=hrel
  by_cases hlt: k < nn
  ·obtain ⟨bz,oz,z,hAz,hbz,hzz,hcz⟩:=(HI.out _ B10.out.bel).at_ (k:=k) (by rw [HL.out]; exact hlt)
   subst hAz
   clear hzz hbz
   go_wp2
   go_roundw
   case rel => exact ⟨k + 1,_,by omega,by go_num,(by first | rfl | trivial),trivial,(by first | trivial | rfl)⟩
   case measure => simp [intOf]; omega
  ·obtain rfl: nn = k:=by omega
   go_wp2_with fail
   go_ret
   exact ⟨rfl,B10.out.bel⟩
theorem sone_bad (w0: World) (cores: Int) (hG: IsG w0 A n c F m d W E) (hs: InNL w0 N nn nc need) (hp: InNL w0 P nP cP picks) (l1: n <= 70) (l2: m <= 300) (l3: nn <= 70) (l4: nP <= 600) (hl: litV 300 need = true) (h0: ¬ newE W E need 1 = 0) (hk0: ¬ newE W E need cores = 0): Calls Tryz.prog 7 #[.agg #[.slice A n c,.slice F m d],.slice N nn nc,.int .i64 cores,.slice P nP cP] w0 fun e w' => e = .returned (.bool true) /\ Below w0.heap.size w0 w':=by
 obtain ⟨z1,hz1⟩: ∃ z,newE W E need 1 = z:=⟨_,rfl⟩
 rw [hz1] at h0
 have HE1:=Lib.hid hz1
 have HN1:=Lib.hid h0
 have hna: (z1 != 0) = true:=bne_iff_ne.mpr h0
 have hnc: (z1 == 0) = false:=by simpa using h0
 obtain ⟨z2,hz2⟩: ∃ z,newE W E need cores = z:=⟨_,rfl⟩
 rw [hz2] at hk0
 have HE2:=Lib.hid hz2
 have HN2:=Lib.hid hk0
 have hnb: (z2 != 0) = true:=bne_iff_ne.mpr hk0
 clear h0 hk0 hz1 hz2
 have HTW:=Lib.hid (fun W (h: Below w0.heap.size w0 W) => Tab64.via hG.tab h)
 have HG:=Lib.hid (fun W' (h: Below w0.heap.size w0 W') => hG.below h)
 have HI:=Lib.hid (fun W' (h: Below w0.heap.size w0 W') => (hs.ints.below h).more h.size)
 have HL:=Lib.hid hs.hn
 have HA:=Lib.hid hs.hN
 have HIP:=Lib.hid (fun W' (h: Below w0.heap.size w0 W') => (hp.ints.below h).more h.size)
 have HLP:=Lib.hid hp.hn
 have HAP:=Lib.hid hp.hN
 have B0:=Lib.hid (BxB.start (Below.refl w0.heap.size w0) A n c F m d)
 have F1:=Lib.hid (fun W => few_yes A F n c m d W l1 l2)
 have F3:=Lib.hid (fun W' (hb: Below w0.heap.size w0 W') => little_any (nc:=nc) W' hs.hn (by omega: nn <= 400) ((hs.ints.below hb).more hb.size))
 rw [hl] at F3
 have h70a: decide (70 < nn) = false:=decide_eq_false (by omega)
 have h70b: decide ((70: Int) < (nn: Int)) = false:=decide_eq_false (by omega)
 have h6a: decide (600 < nP) = false:=decide_eq_false (by omega)
 have h6b: decide ((600: Int) < (nP: Int)) = false:=decide_eq_false (by omega)
 clear hG hs hp hl
 go_enter Tryz.func7,Tryz.ntmps7
 go_wp2_with fail
 refine (awakeS_any _ (HTW.out _ B0.out.bel)).mono ?_
 rintro e y1 ⟨rfl,b⟩
 have B1:=Lib.hid (B0.out.next b)
 clear b
 obtain ⟨q0,q1⟩:=B1.out.cells
 go_wp2_with fail
 refine (F1.out _).mono ?_
 rintro e y2 ⟨rfl,b⟩
 have B2:=Lib.hid (B1.out.next b)
 clear b q0 q1
 go_wp2_with fail
 refine (F3.out _ B2.out.bel).mono ?_
 rintro e y2' ⟨rfl,hww⟩
 replace hww:=hww.symm
 subst hww
 obtain ⟨q0,q1⟩:=B2.out.cells
 go_wp2_with fail
 refine (own_g10 (HG.out _ B2.out.bel)).mono ?_
 rintro e y3 ⟨Ag3,cg3,Fg3,dg3,rfl,hg1,b7b⟩
 have B3:=Lib.hid (B2.out.next b7b)
 have HG3:=Lib.hid hg1
 clear hg1 b7b q0 q1
 go_wp2_with fail
 refine (ints13_any _ N nc nn need HL.out (by omega) (HI.out _ B3.out.bel) HA.out).mono ?_
 rintro e y4 ⟨An4,cn4,rfl,hO,hC,hN,b7b⟩
 have B4:=Lib.hid (B3.out.next b7b)
 have HG4:=Lib.hid (HG3.out.below b7b)
 have HJ4:=Lib.hid hO
 have HJC4:=Lib.hid hC
 have HJN4:=Lib.hid hN
 clear hO hC hN b7b HG3 B3
 go_wp2_with fail
 refine (ints13_any _ P cP nP picks HLP.out (by omega) (HIP.out _ B4.out.bel) HAP.out).mono ?_
 rintro e y5 ⟨An5,cn5,rfl,hO,hC,hN,b7b⟩
 have B5:=Lib.hid (B4.out.next b7b)
 have HG5:=Lib.hid (HG4.out.below b7b)
 have HK5:=Lib.hid hO
 have HKC5:=Lib.hid hC
 have HKN5:=Lib.hid hN
 have HJ5:=Lib.hid (OwnI.below HJ4.out b7b)
 clear HJ4
 clear hO hC hN b7b HG4 B4
 go_wp2_with fail
 refine (srun_no y5 _ HG5.out HL.out (by omega) (OwnI.ints HJ5.out) HJN4.out HE1.out HN1.out).mono ?_
 rintro e y6 ⟨rfl,b⟩
 have B6:=Lib.hid (B5.out.next b)
 clear b HG5 HJ5 HK5 HJC4 HJN4 HKC5 HKN5 B5
 obtain ⟨q0,q1⟩:=B6.out.cells
 go_wp2_with fail
 refine (own_g10 (HG.out _ B6.out.bel)).mono ?_
 rintro e y7 ⟨Ag7,cg7,Fg7,dg7,rfl,hg1,b7b⟩
 have B7:=Lib.hid (B6.out.next b7b)
 have HG7:=Lib.hid hg1
 clear hg1 b7b q0 q1
 go_wp2_with fail
 refine (ints13_any _ N nc nn need HL.out (by omega) (HI.out _ B7.out.bel) HA.out).mono ?_
 rintro e y8 ⟨An8,cn8,rfl,hO,hC,hN,b7b⟩
 have B8:=Lib.hid (B7.out.next b7b)
 have HG8:=Lib.hid (HG7.out.below b7b)
 have HJ8:=Lib.hid hO
 have HJC8:=Lib.hid hC
 have HJN8:=Lib.hid hN
 clear hO hC hN b7b HG7 B7
 go_wp2_with fail
 refine (ints13_any _ P cP nP picks HLP.out (by omega) (HIP.out _ B8.out.bel) HAP.out).mono ?_
 rintro e y9 ⟨An9,cn9,rfl,hO,hC,hN,b7b⟩
 have B9:=Lib.hid (B8.out.next b7b)
 have HG9:=Lib.hid (HG8.out.below b7b)
 have HK9:=Lib.hid hO
 have HKC9:=Lib.hid hC
 have HKN9:=Lib.hid hN
 have HJ9:=Lib.hid (OwnI.below HJ8.out b7b)
 clear HJ8
 clear hO hC hN b7b HG8 B8
 go_wp2_with fail
 refine (srun_no y9 _ HG9.out HL.out (by omega) (OwnI.ints HJ9.out) HJN8.out HE2.out HN2.out).mono ?_
 rintro e y10 ⟨rfl,b⟩
 have B10:=Lib.hid (B9.out.next b)
 clear b HG9 HJ9 HK9 HJC8 HJN8 HKC9 HKN9 B9
 go_wp2
 go_loopw [15,16] (fun sv v wr => ∃ (k: Nat) (s: Int),k <= nn /\ v = .int .i64 k /\ sv = .int .i64 s /\ (True) /\ y10 = wr) (fun _ v _ => nn - (intOf v).toNat)
 case atStart => exact ⟨0,0,Nat.zero_le _,rfl,rfl,trivial,rfl⟩
 case round =>
  obtain ⟨k,s,hk,rfl,rfl,-,rfl⟩:=hrel
  by_cases hlt: k < nn
  ·obtain ⟨bz,oz,z,hAz,hbz,hzz,hcz⟩:=(HI.out _ B10.out.bel).at_ (k:=k) (by rw [HL.out]; exact hlt)
   subst hAz
   clear hzz hbz
   go_wp2
   go_roundw
   case rel => exact ⟨k + 1,_,by omega,by go_num,(by first | rfl | trivial),trivial,(by first | trivial | rfl)⟩
   case measure => simp [intOf]; omega
  ·obtain rfl: nn = k:=by omega
   go_wp2_with fail
   go_ret
   exact ⟨rfl,B10.out.bel⟩
theorem walk_StealOne (w0: World) (hT: Tab64 w0) (hg: InG w0 A n c F m d W E) (hs: InNL w0 N nn nc need) (cores: Int) (hc: -9223372036854775808 <= cores /\ cores <= 9223372036854775807) (hp: InNL w0 P nP cP picks): Calls Tryz.prog 7 #[.agg #[.slice A n c,.slice F m d],.slice N nn nc,.int .i64 cores,.slice P nP cP] w0 fun e w' => e = .returned (.bool true) /\ Below w0.heap.size w0 w':=by
 by_cases h: ((n <= 70 /\ m <= 300) /\ nn <= 70 /\ litV 300 need = true) /\ nP <= 600
 ·have hG:=hg.isG hT h.1.1.1 h.1.1.2
  by_cases h0: newE W E need 1 = 0
  ·by_cases hk0: newE W E need cores = 0
   ·obtain ⟨kc,rfl⟩: ∃ k: Nat,cores = k:=⟨cores.toNat,by have:=(newE_zero.mp hk0).2.2.2.1; omega⟩
    exact sone_good w0 kc hG hs hp h.1.1.1 h.1.1.2 h.1.2.1 h.2 h.1.2.2 h0 hk0
   ·exact sone_half w0 cores hG hs hp h.1.1.1 h.1.1.2 h.1.2.1 h.2 h.1.2.2 h0 hk0
  ·refine sone_bad w0 cores hG hs hp h.1.1.1 h.1.1.2 h.1.2.1 h.2 h.1.2.2 h0 (fun q => h0 ?_)
   obtain ⟨hM,hF⟩:=newE_zero.mp q
   exact newE_zero.mpr ⟨hM,hF.1,hF.2.1,by decide,by decide⟩
 ·exact sone_many w0 cores hT hg hs hp h
end
end Go.Proofs.YtfpnkcpjhbkgnaaGreatDoor
