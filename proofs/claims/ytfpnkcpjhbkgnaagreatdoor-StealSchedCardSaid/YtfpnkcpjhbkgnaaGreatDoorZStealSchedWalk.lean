import Derived.Test.YtfpnkcpjhbkgnaaGreatDoorZM38
set_option linter.unusedSimpArgs false
set_option linter.unusedVariables false
set_option maxRecDepth 100000
set_option maxHeartbeats 16000000
namespace Go.Proofs.YtfpnkcpjhbkgnaaGreatDoor
open Go Go.RowKit
section
variable {A: Option Addr} {n c: Nat} {F: Option Addr} {m d: Nat} {W: List Int} {E: List (Int × Int)} {N: Option Addr} {nn nc: Nat} {need: List Int} {P: Option Addr} {nP cP: Nat} {picks: List Int}
theorem ssched_many (w0 : World) (cores : Int) (hT : Tab64 w0) (hg : InG w0 A n c F m d W E) (hs : InNL w0 N nn nc need) (hp : InNL w0 P nP cP picks) (h : ¬ (((n <= 70 /\ m <= 300) /\ nn <= 70 /\ litV 300 need = true) /\ nP <= 600)) : Calls Tryz.prog 4 #[.agg #[.slice A n c, .slice F m d], .slice N nn nc, .int .i64 cores, .slice P nP cP] w0 fun e w' => e = .returned (.bool true) /\ Below w0.heap.size w0 w' := by
  have HTW := Lib.hid (fun W (h : Below w0.heap.size w0 W) => Tab64.via hT h)
  have B0 := Lib.hid (BxB.start (Below.refl w0.heap.size w0) A n c F m d)
  by_cases hd : n <= 70 /\ m <= 300
  · have F1 := Lib.hid (fun W => few_yes A F n c m d W hd.1 hd.2)
    by_cases h70 : nn <= 70
    · cases hl : litV 300 need with
      | false =>
        have F3 := Lib.hid (fun W' (hb : Below w0.heap.size w0 W') => little_any (nc := nc) W' hs.hn (by omega : nn <= 400) ((hs.ints.below hb).more hb.size))
        rw [hl] at F3
        have h70a : decide (70 < nn) = false := decide_eq_false (by omega)
        have h70b : decide ((70 : Int) < (nn : Int)) = false := decide_eq_false (by omega)
        clear hg hs hp h hd hT
        go_enter Tryz.func4, Tryz.ntmps4
        go_wp2_with fail
        refine (awakeS_any _ (HTW.out _ B0.out.bel)).mono ?_
        rintro e y1 ⟨rfl, b⟩
        have B1 := Lib.hid (B0.out.next b)
        clear b
        obtain ⟨q0, q1⟩ := B1.out.cells
        go_wp2_with fail
        refine (F1.out _).mono ?_
        rintro e y2 ⟨rfl, b⟩
        have B2 := Lib.hid (B1.out.next b)
        clear b q0 q1
        go_wp2_with fail
        refine (F3.out _ B2.out.bel).mono ?_
        rintro e y2' ⟨rfl, hww⟩
        replace hww := hww.symm
        subst hww
        go_wp2_with fail
        refine (awakeS_any _ (HTW.out _ B2.out.bel)).mono ?_
        rintro e y3 ⟨rfl, b⟩
        have B3 := Lib.hid (B2.out.next b)
        clear b
        go_wp2_with fail
        go_ret
        exact ⟨rfl, B3.out.bel⟩
      | true =>
        have hPM : ¬ nP <= 600 := fun q => h ⟨⟨hd, h70, hl⟩, q⟩
        have F3 := Lib.hid (fun W' (hb : Below w0.heap.size w0 W') => little_any (nc := nc) W' hs.hn (by omega : nn <= 400) ((hs.ints.below hb).more hb.size))
        rw [hl] at F3
        have h70a : decide (70 < nn) = false := decide_eq_false (by omega)
        have h70b : decide ((70 : Int) < (nn : Int)) = false := decide_eq_false (by omega)
        have h6a : decide (600 < nP) = true := decide_eq_true (by omega)
        have h6b : decide ((600 : Int) < (nP : Int)) = true := decide_eq_true (by omega)
        have hpp := hp.ln
        clear hg hs hp h hd hT hl
        go_enter Tryz.func4, Tryz.ntmps4
        go_wp2_with fail
        refine (awakeS_any _ (HTW.out _ B0.out.bel)).mono ?_
        rintro e y1 ⟨rfl, b⟩
        have B1 := Lib.hid (B0.out.next b)
        clear b
        obtain ⟨q0, q1⟩ := B1.out.cells
        go_wp2_with fail
        refine (F1.out _).mono ?_
        rintro e y2 ⟨rfl, b⟩
        have B2 := Lib.hid (B1.out.next b)
        clear b q0 q1
        go_wp2_with fail
        refine (F3.out _ B2.out.bel).mono ?_
        rintro e y2' ⟨rfl, hww⟩
        replace hww := hww.symm
        subst hww
        go_wp2_with fail
        refine (awakeS_any _ (HTW.out _ B2.out.bel)).mono ?_
        rintro e y3 ⟨rfl, b⟩
        have B3 := Lib.hid (B2.out.next b)
        clear b
        go_wp2_with fail
        go_ret
        exact ⟨rfl, B3.out.bel⟩
    · have h70a : decide (70 < nn) = true := decide_eq_true (by omega)
      have h70b : decide ((70 : Int) < (nn : Int)) = true := decide_eq_true (by omega)
      have hnn := hs.ln
      clear hg hs hp h hd hT
      go_enter Tryz.func4, Tryz.ntmps4
      go_wp2_with fail
      refine (awakeS_any _ (HTW.out _ B0.out.bel)).mono ?_
      rintro e y1 ⟨rfl, b⟩
      have B1 := Lib.hid (B0.out.next b)
      clear b
      obtain ⟨q0, q1⟩ := B1.out.cells
      go_wp2_with fail
      refine (F1.out _).mono ?_
      rintro e y2 ⟨rfl, b⟩
      have B2 := Lib.hid (B1.out.next b)
      clear b q0 q1
      go_wp2_with fail
      refine (awakeS_any _ (HTW.out _ B2.out.bel)).mono ?_
      rintro e y3 ⟨rfl, b⟩
      have B3 := Lib.hid (B2.out.next b)
      clear b
      go_wp2_with fail
      go_ret
      exact ⟨rfl, B3.out.bel⟩
  · have F1 := Lib.hid (fun W => few_no A F n c m d W hg.ln hg.lm hd)
    clear hg hs hp h hd hT
    go_enter Tryz.func4, Tryz.ntmps4
    go_wp2_with fail
    refine (awakeS_any _ (HTW.out _ B0.out.bel)).mono ?_
    rintro e y1 ⟨rfl, b⟩
    have B1 := Lib.hid (B0.out.next b)
    clear b
    obtain ⟨q0, q1⟩ := B1.out.cells
    go_wp2_with fail
    refine (F1.out _).mono ?_
    rintro e y2 ⟨rfl, b⟩
    have B2 := Lib.hid (B1.out.next b)
    clear b q0 q1
    go_wp2_with fail
    refine (awakeS_any _ (HTW.out _ B2.out.bel)).mono ?_
    rintro e y3 ⟨rfl, b⟩
    have B3 := Lib.hid (B2.out.next b)
    clear b
    go_wp2_with fail
    go_ret
    exact ⟨rfl, B3.out.bel⟩
theorem ssched_few (w0: World) (cores: Int) (hG: IsG w0 A n c F m d W E) (hs: InNL w0 N nn nc need) (hp: InNL w0 P nP cP picks) (l1: n <= 70) (l2: m <= 300) (l3: nn <= 70) (l4: nP <= 600) (hl: litV 300 need = true): Calls Tryz.prog 4 #[.agg #[.slice A n c,.slice F m d],.slice N nn nc,.int .i64 cores,.slice P nP cP] w0 fun e w' => e = .returned (.bool true) /\ Below w0.heap.size w0 w':=by
 have HS: Hid (newE W E need cores = 0 -> need.sum <= 300):=Lib.hid (new_sum hl)
 obtain ⟨ne,hne⟩: ∃ z,z = newE W E need cores:=⟨_,rfl⟩
 have HE: Hid (ne = newE W E need cores):=Lib.hid hne
 clear hne
 have HTW:=Lib.hid (fun W (h: Below w0.heap.size w0 W) => Tab64.via hG.tab h)
 have HG:=Lib.hid (fun W' (h: Below w0.heap.size w0 W') => hG.below h)
 have HI:=Lib.hid (fun W' (h: Below w0.heap.size w0 W') => (hs.ints.below h).more h.size)
 have HL:=Lib.hid hs.hn
 have HA:=Lib.hid hs.hN
 have HIP:=Lib.hid (fun W' (h: Below w0.heap.size w0 W') => (hp.ints.below h).more h.size)
 have HLP:=Lib.hid hp.hn
 have HAP:=Lib.hid hp.hN
 have B0:=Lib.hid (BxB.start (Below.refl w0.heap.size w0) A n c F m d)
 have F1:=Lib.hid (fun W => few_yes A F n c m d W l1 l2)
 have F3:=Lib.hid (fun W' (hb: Below w0.heap.size w0 W') => little_any (nc:=nc) W' hs.hn (by omega: nn <= 400) ((hs.ints.below hb).more hb.size))
 rw [hl] at F3
 have h70a: decide (70 < nn) = false:=decide_eq_false (by omega)
 have h70b: decide ((70: Int) < (nn: Int)) = false:=decide_eq_false (by omega)
 have h6a: decide (600 < nP) = false:=decide_eq_false (by omega)
 have h6b: decide ((600: Int) < (nP: Int)) = false:=decide_eq_false (by omega)
 clear hG hs hp hl
 go_enter Tryz.func4,Tryz.ntmps4
 go_wp2_with fail
 refine (awakeS_any _ (HTW.out _ B0.out.bel)).mono ?_
 rintro e y1 ⟨rfl,b⟩
 have B1:=Lib.hid (B0.out.next b)
 clear b
 obtain ⟨q0,q1⟩:=B1.out.cells
 go_wp2_with fail
 refine (F1.out _).mono ?_
 rintro e y2 ⟨rfl,b⟩
 have B2:=Lib.hid (B1.out.next b)
 clear b q0 q1
 go_wp2_with fail
 refine (F3.out _ B2.out.bel).mono ?_
 rintro e y2' ⟨rfl,hww⟩
 replace hww:=hww.symm
 subst hww
 obtain ⟨q0,q1⟩:=B2.out.cells
 go_wp2_with fail
 refine (own_g10 (HG.out _ B2.out.bel)).mono ?_
 rintro e y3 ⟨Ag3,cg3,Fg3,dg3,rfl,hg1,b7b⟩
 have B3:=Lib.hid (B2.out.next b7b)
 have HG3:=Lib.hid hg1
 clear hg1 b7b q0 q1
 go_wp2_with fail
 refine (ints13_any _ N nc nn need HL.out (by omega) (HI.out _ B3.out.bel) HA.out).mono ?_
 rintro e y4 ⟨An4,cn4,rfl,hO,hC,hN,b7b⟩
 have B4:=Lib.hid (B3.out.next b7b)
 have HG4:=Lib.hid (HG3.out.below b7b)
 have HJ4:=Lib.hid hO
 have HJC4:=Lib.hid hC
 have HJN4:=Lib.hid hN
 clear hO hC hN b7b HG3 B3
 go_wp2_with fail
 refine (ints13_any _ P cP nP picks HLP.out (by omega) (HIP.out _ B4.out.bel) HAP.out).mono ?_
 rintro e y5 ⟨An5,cn5,rfl,hO,hC,hN,b7b⟩
 have B5:=Lib.hid (B4.out.next b7b)
 have HG5:=Lib.hid (HG4.out.below b7b)
 have HK5:=Lib.hid hO
 have HKC5:=Lib.hid hC
 have HKN5:=Lib.hid hN
 have HJ5:=Lib.hid (OwnI.below HJ4.out b7b)
 clear HJ4
 clear hO hC hN b7b HG4 B4
 go_wp2_with fail
 by_cases h0: ne = 0
 ·have hne: newE W E need cores = 0:=by rw [<- HE.out]; exact h0
  obtain ⟨kc,hkc⟩: ∃ k: Nat,cores = k:=⟨cores.toNat,by have:=(newE_zero.mp hne).2.2.2.1; omega⟩
  subst hkc
  have hsum: need.sum <= 300:=HS.out hne
  obtain ⟨r,hr⟩: ∃ r,r = traceG W.length kc E need picks:=⟨_,rfl⟩
  have CR:=srun_yes (cP:=cn5) y5 HG5.out.tab HG5.out HL.out (by omega) (OwnI.ints HJ5.out) HJN4.out HLP.out (by omega) (OwnI.ints HK5.out) HKC5.out hne hsum
  rw [<- hr] at CR
  have HZ: Hid (schedE W E need kc r = 0 /\ greedyB W E need kc r = true /\ endsV W E need kc r = (List.range need.length).map (fun n: Nat => endV need r (n: Int)) /\ (r.length: Int) <= boundV W E need kc):=Lib.hid (by rw [hr]; exact traceG_sched hne)
  have HO: Hid (need.length = W.length /\ RunOk W.length E need kc r):=Lib.hid ⟨(newE_zero.mp hne).2.1,by rw [hr]; exact traceG_ok hne⟩
  have HR: Hid (r.length <= 300 /\ ∀ x ∈ r,x.length <= 400):=Lib.hid (by rw [hr]; exact traceG_small hne hsum)
  refine CR.mono ?_
  rintro e y6 ⟨v,rfl,⟨T6,tc6,rfl,ht6,hN6⟩,b⟩
  have B6a:=Lib.hid (B5.out.next b)
  clear b CR hr hne HG5 HJ5 HK5 HJC4 HJN4 HKC5 HKN5 B5 HE HS
  obtain ⟨tn,htn⟩: ∃ k,r.length = k:=⟨_,rfl⟩
  rw [htn] at HZ hN6 ⊢
  have ht3: tn <= 300:=by have:=HR.out.1; omega
  have B6: Hid (BxT w0 A n c F m d T6 tn tc6 r y6):=Lib.hid ⟨B6a.out,ht6,htn,ht3,HR.out.2,hN6⟩
  have HBD0:=HZ.out.2.2.2
  obtain ⟨bd,hbd⟩: ∃ b,boundV W E need kc = b:=⟨_,rfl⟩
  rw [hbd] at HBD0
  have HBD: Hid (boundV W E need kc = bd):=Lib.hid hbd
  have hleb: decide ((tn: Int) <= bd) = true:=decide_eq_true HBD0
  subst h0
  clear ht6 hN6 htn B6a hbd HBD0
  obtain ⟨q0,q1⟩:=B6.out.cells
  go_wp2_with fail
  refine (own_g10 (HG.out _ B6.out.bel)).mono ?_
  rintro e y7 ⟨Ag7,cg7,Fg7,dg7,rfl,hg1,b7b⟩
  have B7:=Lib.hid (B6.out.next b7b)
  have HG7:=Lib.hid hg1
  clear hg1 b7b q0 q1
  go_wp2_with fail
  refine (ints13_any _ N nc nn need HL.out (by omega) (HI.out _ B7.out.bel) HA.out).mono ?_
  rintro e y8 ⟨An8,cn8,rfl,hO,hC,hN,b7b⟩
  have B8:=Lib.hid (B7.out.next b7b)
  have HG8:=Lib.hid (HG7.out.below b7b)
  have HJ8:=Lib.hid hO
  have HJC8:=Lib.hid hC
  have HJN8:=Lib.hid hN
  clear hO hC hN b7b HG7 B7
  go_wp2_with fail
  refine (ends_any (kc: Int) _ HG8.out (B8.out.isS HL.out l3 ⟨OwnI.ints HJ8.out,HJN8.out⟩)).mono ?_
  rintro e y9 ⟨Ae,ce,rfl,hIe,b⟩
  have B9:=Lib.hid (B8.out.next b)
  rw [HZ.out.2.2.1] at hIe ⊢
  have HIE:=Lib.hid hIe
  rw [List.length_map,List.length_range,HL.out]
  clear b hIe HG8 HJ8 HJC8 HJN8 B8 B6
  go_wp2
  go_loopw [13] (fun v wr => ∃ (k: Nat),k <= nn /\ v = .int .i64 k /\ y9 = wr) (fun v _ => nn - (intOf v).toNat)
  case atStart => exact ⟨0,Nat.zero_le _,rfl,rfl⟩
  case round =>
   obtain ⟨k,hk,rfl,rfl⟩:=hrel
   by_cases hlt: k < nn
   ·obtain ⟨be,oe,ez,hAe,hbe,hze,hce⟩:=HIE.out.at_ (k:=k) (by rw [List.length_map,List.length_range,HL.out]; exact hlt)
    subst hAe
    have hez: 0 <= ez:=by
     rw [List.getElem?_map,List.getElem?_range (by rw [HL.out]; exact hlt)] at hze
     have hze2: endV need r (k: Int) = ez:=by simpa using hze
     have h1:=HO.out.2.done k (by rw [<- HO.out.1,HL.out]; exact hlt)
     omega
    have hnf: decide (ez < 0) = false:=decide_eq_false (by omega)
    clear hze
    go_wp2
    go_roundw
    case rel => exact ⟨k + 1,by omega,by go_num,(by first | trivial | rfl)⟩
    case measure => simp [intOf]; omega
   ·obtain rfl: nn = k:=by omega
    have htt: ((nn: Int) == (nn: Int)) = true:=by simp
    clear HIE HO
    obtain ⟨q0,q1⟩:=B9.out.cells
    go_wp2_with fail
    refine (own_g10 (HG.out _ B9.out.bel)).mono ?_
    rintro e y10 ⟨Ag10,cg10,Fg10,dg10,rfl,hg1,b7b⟩
    have B10:=Lib.hid (B9.out.next b7b)
    have HG10:=Lib.hid hg1
    clear hg1 b7b q0 q1
    go_wp2_with fail
    refine (ints13_any _ N nc nn need HL.out (by omega) (HI.out _ B10.out.bel) HA.out).mono ?_
    rintro e y11 ⟨An11,cn11,rfl,hO,hC,hN,b7b⟩
    have B11:=Lib.hid (B10.out.next b7b)
    have HG11:=Lib.hid (HG10.out.below b7b)
    have HJ11:=Lib.hid hO
    have HJC11:=Lib.hid hC
    have HJN11:=Lib.hid hN
    clear hO hC hN b7b HG10 B10
    go_wp2_with fail
    refine (scheck_any (kc: Int) _ HG11.out (B11.out.isS HL.out l3 ⟨OwnI.ints HJ11.out,HJN11.out⟩)).mono ?_
    rintro e y12 ⟨he,b⟩
    rw [HZ.out.1] at he
    subst he
    have B12:=Lib.hid (B11.out.next b)
    clear b HG11 HJ11 HJC11 HJN11 B11
    obtain ⟨q0,q1⟩:=B12.out.cells
    go_wp2_with fail
    refine (own_g10 (HG.out _ B12.out.bel)).mono ?_
    rintro e y13 ⟨Ag13,cg13,Fg13,dg13,rfl,hg1,b7b⟩
    have B13:=Lib.hid (B12.out.next b7b)
    have HG13:=Lib.hid hg1
    clear hg1 b7b q0 q1
    go_wp2_with fail
    refine (ints13_any _ N nc nn need HL.out (by omega) (HI.out _ B13.out.bel) HA.out).mono ?_
    rintro e y14 ⟨An14,cn14,rfl,hO,hC,hN,b7b⟩
    have B14:=Lib.hid (B13.out.next b7b)
    have HG14:=Lib.hid (HG13.out.below b7b)
    have HJ14:=Lib.hid hO
    have HJC14:=Lib.hid hC
    have HJN14:=Lib.hid hN
    clear hO hC hN b7b HG13 B13
    go_wp2_with fail
    refine (greedy_any (kc: Int) _ HG14.out (B14.out.isS HL.out l3 ⟨OwnI.ints HJ14.out,HJN14.out⟩)).mono ?_
    rintro e y15 ⟨he,b⟩
    rw [HZ.out.2.1] at he
    subst he
    have B15:=Lib.hid (B14.out.next b)
    clear b HG14 HJ14 HJC14 HJN14 B14
    obtain ⟨q0,q1⟩:=B15.out.cells
    go_wp2_with fail
    refine (own_g10 (HG.out _ B15.out.bel)).mono ?_
    rintro e y16 ⟨Ag16,cg16,Fg16,dg16,rfl,hg1,b7b⟩
    have B16:=Lib.hid (B15.out.next b7b)
    have HG16:=Lib.hid hg1
    clear hg1 b7b q0 q1
    go_wp2_with fail
    refine (ints13_any _ N nc nn need HL.out (by omega) (HI.out _ B16.out.bel) HA.out).mono ?_
    rintro e y17 ⟨An17,cn17,rfl,hO,hC,hN,b7b⟩
    have B17:=Lib.hid (B16.out.next b7b)
    have HG17:=Lib.hid (HG16.out.below b7b)
    have HJ17:=Lib.hid hO
    have HJC17:=Lib.hid hC
    have HJN17:=Lib.hid hN
    clear hO hC hN b7b HG16 B16
    go_wp2_with fail
    refine (bound_any (kc: Int) _ HG17.out HL.out (by omega) (OwnI.ints HJ17.out) HJN17.out).mono ?_
    rintro e y18 ⟨he,b⟩
    rw [HBD.out] at he
    subst he
    have B18:=Lib.hid (B17.out.next b)
    clear b HG17 HJ17 HJC17 HJN17 B17
    go_wp2
    go_ret
    exact ⟨rfl,B18.out.bel⟩
 ·have hnb: (ne != 0) = true:=bne_iff_ne.mpr h0
  refine (srun_no y5 _ HG5.out HL.out (by omega) (OwnI.ints HJ5.out) HJN4.out HE.out.symm h0).mono ?_
  rintro e y6 ⟨rfl,b⟩
  have B6:=Lib.hid (B5.out.next b)
  clear b h0
  go_wp2
  go_ret
  exact ⟨rfl,B6.out.bel⟩
theorem walk_StealSched (w0: World) (hT: Tab64 w0) (hg: InG w0 A n c F m d W E) (hs: InNL w0 N nn nc need) (cores: Int) (hc: -9223372036854775808 <= cores /\ cores <= 9223372036854775807) (hp: InNL w0 P nP cP picks): Calls Tryz.prog 4 #[.agg #[.slice A n c,.slice F m d],.slice N nn nc,.int .i64 cores,.slice P nP cP] w0 fun e w' => e = .returned (.bool true) /\ Below w0.heap.size w0 w':=by
 by_cases h: ((n <= 70 /\ m <= 300) /\ nn <= 70 /\ litV 300 need = true) /\ nP <= 600
 ·exact ssched_few w0 cores (hg.isG hT h.1.1.1 h.1.1.2) hs hp h.1.1.1 h.1.1.2 h.1.2.1 h.2 h.1.2.2
 ·exact ssched_many w0 cores hT hg hs hp h
end
end Go.Proofs.YtfpnkcpjhbkgnaaGreatDoor
