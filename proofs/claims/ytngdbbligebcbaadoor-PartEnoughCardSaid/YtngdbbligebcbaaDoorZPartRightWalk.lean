/- The walk of the law PartRight, in the seat YtngdbbligebcbaaDoor (printed by part/mk_laws.py). No statement is proved here. -/
import Derived.Test.YtngdbbligebcbaaDoorZM10
set_option linter.unusedSimpArgs false
set_option linter.unusedVariables false
set_option linter.unusedSimpArgs false
namespace Go.Proofs.YtngdbbligebcbaaDoor
open Go Go.RowKit

set_option maxRecDepth 100000 in
set_option maxHeartbeats 32000000 in
theorem law_PartRight {A : Option Addr} {n c : Nat} {es : List Shp} (m : Int) (w : World) (hT : DTab w) (hn : es.length = n) (hS : Shps w w.heap.size A es) (hA : A = none → n = 0 ∧ c = 0) (hm : -9223372036854775808 ≤ m ∧ m ≤ 9223372036854775807) :
    Calls Tryd.prog 3 #[.slice A n c, .int .i64 m] w fun e w' => e = .returned (.bool true) ∧ Below w.heap.size w w' := by
  have AW := Lib.hid (fun W (b : Below w.heap.size w W) => awake16_any W (hT.via b))
  have HI := Lib.hid (Below.refl w.heap.size w)
  by_cases hl20 : n ≤ 20
  · have hl : n ≤ 1000 := by omega
    obtain ⟨L, er, hP⟩ := plcA_is es m
    have OW := Lib.hid (fun W (b : Below w.heap.size w W) => own15n (c := c) W hn hl (hS.via b) hA)
    have KP := Lib.hid (fun A1 c1 W (b : Below w.heap.size w W) (h : Shps W W.heap.size A1 es) => place_any (c := c1) m hP W (hT.via b) hn hl h)
    by_cases h0 : er = 0
    · obtain ⟨hM, h1, h8, _, hR⟩ := hP.zero h0
      subst h0
      have hLn : L.length = n := by rw [hR.len, hn]
      have KN := Lib.hid (fun (j : Int) A1 c1 A2 c2 W (h1 : Shps W W.heap.size A1 es) (h2 : Ints W W.heap.size A2 L) => on_n (c := c1) (d := c2) j W hn (by omega) h1 hLn (by omega) h2)
      have KF := Lib.hid (fun (L1 : List Shp) (x : Bool) (hx : x = true ↔ FitE L1) A1 n1 c1 W (b : Below w.heap.size w W) (h1 : L1.length = n1) (h2 : n1 ≤ 1000) (h3 : Shps W W.heap.size A1 L1) => efits_any (c := c1) x hx W (hT.via b) h1 h2 h3)
      have KI := Lib.hid (fun A1 c1 A2 c2 W (b : Below w.heap.size w W) (h1 : Shps W W.heap.size A1 es) (h2 : Ints W W.heap.size A2 L) => right_any (c := c1) (d := c2) true m ⟨fun _ => hR, fun _ => rfl⟩ W (hT.via b) hn (by omega) h1 hLn (by omega) h2)
      have HF := Lib.hid (fun (j : Nat) (hj : (j : Int) < m) => hR.fit j (by omega) hj)
      have HLN := Lib.hid (show L.length = n ∧ n ≤ 20 from ⟨hLn, hl20⟩)
      obtain ⟨mn, hmn⟩ : ∃ mn : Nat, m = mn := ⟨m.toNat, by omega⟩
      subst hmn
      have hm8 : mn ≤ 8 := by omega
      clear hS hA hT hn hP hM h1 h8 hR hLn hl hm
      go_enter Tryd.func3, Tryd.ntmps3
      go_wp2_with fail
      refine (AW.out _ HI.out).mono ?_
      rintro e w1 ⟨rfl, b⟩
      have HI := Lib.hid (HI.out.trans (b.mono HI.out.size))
      clear b
      go_wp2_with fail
      refine (OW.out _ HI.out).mono ?_
      rintro e w2 ⟨A2, c2, rfl, ho, b⟩
      have HO := Lib.hid (ho.down (Nat.zero_le _))
      have HI := Lib.hid (HI.out.trans (b.mono HI.out.size))
      clear b ho
      go_wp2_with fail
      refine (KP.out _ _ _ HI.out HO.out.shps).mono ?_
      rintro e w3 ⟨A3, n3, c3, rfl, hna, ho, b⟩
      have HO := Lib.hid (HO.out.below b)
      have HAt := Lib.hid (ho.down (Nat.zero_le _))
      have HI := Lib.hid (HI.out.trans (b.mono HI.out.size))
      clear b ho
      have HNA := Lib.hid hna
      clear hna
      clear HO
      obtain rfl : n = n3 := by have := HNA.out; have := HLN.out; omega
      clear HNA
      go_wp2
      go_loopw [7] (fun v wr => ∃ j : Nat, j ≤ mn ∧ v = .int .i64 j ∧ Hid (OwnI wr 0 (.slice A3 n c3) L) ∧ Hid (Below w.heap.size w wr)) (fun v _ => mn - (intOf v).toNat)
      case atStart => exact ⟨0, Nat.zero_le _, rfl, HAt, HI⟩
      case round =>
        clear HAt HI
        obtain ⟨j, hj, rfl, HAt, HI⟩ := hrel
        by_cases hlt : j < mn
        · have HFT := Lib.hid (HF.out j (by omega))
          have HJ := Lib.hid hlt
          go_wp2_with fail
          refine (OW.out _ HI.out).mono ?_
          rintro e w4 ⟨A4, c4, rfl, ho, b⟩
          have HAt := Lib.hid (HAt.out.below b)
          have HO := Lib.hid (ho.down (Nat.zero_le _))
          have HI := Lib.hid (HI.out.trans (b.mono HI.out.size))
          clear b ho
          obtain ⟨A5, c5, w5, hr5, ho, b⟩ := fresh16 _ _ _ _ _ (HLN.out.1) (by have := HLN.out; omega) HAt.out.ints HAt.out.non16
          have HR5 := Lib.hid hr5
          have HAt := Lib.hid (HAt.out.below b)
          have HO := Lib.hid (HO.out.below b)
          have HAp := Lib.hid (ho.down (Nat.zero_le _))
          have HI := Lib.hid (HI.out.trans (b.mono HI.out.size))
          clear b ho hr5
          go_wp2_with (at_builtin; refine wpList_append_plain rfl _ _ 24 _ _ rfl rfl rfl HR5.out ?_)
          refine (KN.out (j : Int) _ _ _ _ _ HO.out.shps HAp.out.ints).mono ?_
          rintro e w6 ⟨A6, n6, c6, rfl, hle, hln, ho, b⟩
          have HAt := Lib.hid (HAt.out.below b)
          have HL1 := Lib.hid (show (onP es L (j : Int)).length = n6 ∧ n6 ≤ 1000 from ⟨hln, by have := HLN.out; omega⟩)
          have HS1 := Lib.hid ho
          have HI := Lib.hid (HI.out.trans (b.mono HI.out.size))
          clear b ho hle hln HO HAp
          go_wp2_with fail
          refine (KF.out _ true ⟨fun _ => HFT.out, fun _ => rfl⟩ _ _ _ _ HI.out HL1.out.1 HL1.out.2 HS1.out.shps).mono ?_
          rintro e w7 ⟨rfl, b⟩
          have HAt := Lib.hid (HAt.out.below b)
          have HI := Lib.hid (HI.out.trans (b.mono HI.out.size))
          clear b HS1
          go_wp2
          go_roundw
          case rel => exact ⟨j + 1, by have := HJ.out; omega, by go_num, HAt, HI⟩
          case measure => simp [intOf]; have := HJ.out; omega
        · obtain rfl : mn = j := by omega
          go_wp2_with fail
          refine (OW.out _ HI.out).mono ?_
          rintro e w8 ⟨A8, c8, rfl, ho, b⟩
          have HAt := Lib.hid (HAt.out.below b)
          have HO := Lib.hid (ho.down (Nat.zero_le _))
          have HI := Lib.hid (HI.out.trans (b.mono HI.out.size))
          clear b ho
          obtain ⟨A9, c9, w9, hr9, ho, b⟩ := fresh16 _ _ _ _ _ (HLN.out.1) (by have := HLN.out; omega) HAt.out.ints HAt.out.non16
          have HR9 := Lib.hid hr9
          have HAt := Lib.hid (HAt.out.below b)
          have HO := Lib.hid (HO.out.below b)
          have HAp := Lib.hid (ho.down (Nat.zero_le _))
          have HI := Lib.hid (HI.out.trans (b.mono HI.out.size))
          clear b ho hr9
          go_wp2_with (at_builtin; refine wpList_unguardP (by first | rfl | kernel_rfl) ?_; refine wpList_append_plain rfl _ _ 24 _ _ rfl rfl rfl HR9.out ?_)
          refine (KI.out _ _ _ _ _ HI.out HO.out.shps HAp.out.ints).mono ?_
          rintro e w10 ⟨rfl, b⟩
          have HI := Lib.hid (HI.out.trans (b.mono HI.out.size))
          clear b
          go_wp2
          go_ret
          exact ⟨rfl, HI.out⟩
    · obtain ⟨rfl, _⟩ := hP.non h0
      have hne : (er != 0) = true := by simpa using h0
      clear hS hA hT hn hP hl
      go_enter Tryd.func3, Tryd.ntmps3
      go_wp2_with fail
      refine (AW.out _ HI.out).mono ?_
      rintro e w1 ⟨rfl, b⟩
      have HI := Lib.hid (HI.out.trans (b.mono HI.out.size))
      clear b
      go_wp2_with fail
      refine (OW.out _ HI.out).mono ?_
      rintro e w2 ⟨A2, c2, rfl, ho, b⟩
      have HO := Lib.hid (ho.down (Nat.zero_le _))
      have HI := Lib.hid (HI.out.trans (b.mono HI.out.size))
      clear b ho
      go_wp2_with fail
      refine (KP.out _ _ _ HI.out HO.out.shps).mono ?_
      rintro e w3 ⟨A3, n3, c3, rfl, hna, ho, b⟩
      have HO := Lib.hid (HO.out.below b)
      have HAt := Lib.hid (ho.down (Nat.zero_le _))
      have HI := Lib.hid (HI.out.trans (b.mono HI.out.size))
      clear b ho
      have HNA := Lib.hid hna
      clear hna
      clear HO
      obtain rfl : 0 = n3 := by simpa using HNA.out
      go_wp2
      go_ret
      exact ⟨rfl, HI.out⟩
  · clear hS hA hT hn
    have hl20 : 20 < n := by omega
    go_enter Tryd.func3, Tryd.ntmps3
    go_wp2_with fail
    refine (AW.out _ HI.out).mono ?_
    rintro e w1 ⟨rfl, b⟩
    have HI := Lib.hid (HI.out.trans (b.mono HI.out.size))
    clear b
    go_wp2_with fail
    refine (AW.out _ HI.out).mono ?_
    rintro e w2 ⟨rfl, b⟩
    have HI := Lib.hid (HI.out.trans (b.mono HI.out.size))
    clear b
    go_wp2
    go_ret
    exact ⟨rfl, HI.out⟩
end Go.Proofs.YtngdbbligebcbaaDoor
