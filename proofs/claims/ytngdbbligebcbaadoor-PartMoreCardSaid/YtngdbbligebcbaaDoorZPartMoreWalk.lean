/- The walk of the law PartMore, in the seat YtngdbbligebcbaaDoor (printed by part/mk_laws.py). No statement is proved here. -/
import Derived.Test.YtngdbbligebcbaaDoorZM10
set_option linter.unusedSimpArgs false
set_option linter.unusedVariables false
set_option linter.unusedSimpArgs false
namespace Go.Proofs.YtngdbbligebcbaaDoor
open Go Go.RowKit

set_option maxRecDepth 100000 in
set_option maxHeartbeats 32000000 in
theorem law_PartMore {A : Option Addr} {n c : Nat} {es : List Shp} (m : Int) (w : World) (hT : DTab w) (hn : es.length = n) (hS : Shps w w.heap.size A es) (hA : A = none → n = 0 ∧ c = 0) (hm : -9223372036854775808 ≤ m ∧ m ≤ 9223372036854775807) :
    Calls Tryd.prog 5 #[.slice A n c, .int .i64 m] w fun e w' => e = .returned (.bool true) ∧ Below w.heap.size w w' := by
  have AW := Lib.hid (fun W (b : Below w.heap.size w W) => awake16_any W (hT.via b))
  have HI := Lib.hid (Below.refl w.heap.size w)
  by_cases hl20 : n ≤ 20
  · by_cases hm0 : m < 0
    · clear hS hA hT hn
      go_enter Tryd.func5, Tryd.ntmps5
      go_wp2_with fail
      refine (AW.out _ HI.out).mono ?_
      rintro e w1 ⟨rfl, b⟩
      have HI := Lib.hid (HI.out.trans (b.mono HI.out.size))
      clear b
      go_wp2_with fail
      refine (AW.out _ HI.out).mono ?_
      rintro e w2 ⟨rfl, b⟩
      have HI := Lib.hid (HI.out.trans (b.mono HI.out.size))
      clear b
      go_wp2
      go_ret
      exact ⟨rfl, HI.out⟩
    · by_cases hm8 : 8 ≤ m
      · clear hS hA hT hn
        go_enter Tryd.func5, Tryd.ntmps5
        go_wp2_with fail
        refine (AW.out _ HI.out).mono ?_
        rintro e w1 ⟨rfl, b⟩
        have HI := Lib.hid (HI.out.trans (b.mono HI.out.size))
        clear b
        go_wp2_with fail
        refine (AW.out _ HI.out).mono ?_
        rintro e w2 ⟨rfl, b⟩
        have HI := Lib.hid (HI.out.trans (b.mono HI.out.size))
        clear b
        go_wp2
        go_ret
        exact ⟨rfl, HI.out⟩
      · have hl : n ≤ 1000 := by omega
        obtain ⟨L, er, hP⟩ := plcA_is es m
        by_cases h0 : er = 0
        · subst h0
          have hLn : L.length = n := by rw [(hP.zero rfl).2.2.2.2.len, hn]
          have OW := Lib.hid (fun W (b : Below w.heap.size w W) => own15n (c := c) W hn hl (hS.via b) hA)
          have KP := Lib.hid (fun A1 c1 W (b : Below w.heap.size w W) (h : Shps W W.heap.size A1 es) => place_any (c := c1) m hP W (hT.via b) hn hl h)
          have KQ := Lib.hid (fun A1 c1 W (b : Below w.heap.size w W) (h : Shps W W.heap.size A1 es) => place_any (c := c1) (m + 1) (hP.more (by omega)) W (hT.via b) hn hl h)
          have HLN := Lib.hid (show L.length = n ∧ n ≤ 20 from ⟨hLn, hl20⟩)
          clear hS hA hT hn hP hLn hl hm
          go_enter Tryd.func5, Tryd.ntmps5
          go_wp2_with fail
          refine (AW.out _ HI.out).mono ?_
          rintro e w1 ⟨rfl, b⟩
          have HI := Lib.hid (HI.out.trans (b.mono HI.out.size))
          clear b
          go_wp2_with fail
          refine (OW.out _ HI.out).mono ?_
          rintro e w2 ⟨A2, c2, rfl, ho, b⟩
          have HO := Lib.hid (ho.down (Nat.zero_le _))
          have HI := Lib.hid (HI.out.trans (b.mono HI.out.size))
          clear b ho
          go_wp2_with fail
          refine (KP.out _ _ _ HI.out HO.out.shps).mono ?_
          rintro e w3 ⟨A3, n3, c3, rfl, hna, ho, b⟩
          have HO := Lib.hid (HO.out.below b)
          have HAt := Lib.hid (ho.down (Nat.zero_le _))
          have HI := Lib.hid (HI.out.trans (b.mono HI.out.size))
          clear b ho
          have HNA := Lib.hid hna
          clear hna
          clear HO
          obtain rfl : n = n3 := by have := HNA.out; have := HLN.out; omega
          clear HNA
          go_wp2_with fail
          refine (OW.out _ HI.out).mono ?_
          rintro e w4 ⟨A4, c4, rfl, ho, b⟩
          have HAt := Lib.hid (HAt.out.below b)
          have HO := Lib.hid (ho.down (Nat.zero_le _))
          have HI := Lib.hid (HI.out.trans (b.mono HI.out.size))
          clear b ho
          go_wp2_with fail
          refine (KQ.out _ _ _ HI.out HO.out.shps).mono ?_
          rintro e w5 ⟨A5, n5, c5, rfl, hna, ho, b⟩
          have HAt := Lib.hid (HAt.out.below b)
          have HO := Lib.hid (HO.out.below b)
          have HBt := Lib.hid (ho.down (Nat.zero_le _))
          have HI := Lib.hid (HI.out.trans (b.mono HI.out.size))
          clear b ho
          have HNB := Lib.hid hna
          clear hna
          clear HO
          obtain rfl : n = n5 := by have := HNB.out; have := HLN.out; omega
          clear HNB
          go_wp2_with fail
          refine (rints16 _ _ n _ n _ L L _ HLN.out.1 HLN.out.1 (by have := HLN.out; omega) (by have := HLN.out; omega) HAt.out.ints HBt.out.ints).mono ?_
          rintro e w6 ⟨rfl, b⟩
          have HI := Lib.hid (HI.out.trans (b.mono HI.out.size))
          clear b
          go_wp2
          go_ret
          exact ⟨rfl, HI.out⟩
        · obtain ⟨rfl, _⟩ := hP.non h0
          obtain ⟨L2, er2, hP2⟩ := plcA_is es (m + 1)
          have hne : (er != 0) = true := by simpa using h0
          have OW := Lib.hid (fun W (b : Below w.heap.size w W) => own15n (c := c) W hn hl (hS.via b) hA)
          have KP := Lib.hid (fun A1 c1 W (b : Below w.heap.size w W) (h : Shps W W.heap.size A1 es) => place_any (c := c1) m hP W (hT.via b) hn hl h)
          have KQ := Lib.hid (fun A1 c1 W (b : Below w.heap.size w W) (h : Shps W W.heap.size A1 es) => place_any (c := c1) (m + 1) hP2 W (hT.via b) hn hl h)
          clear hS hA hT hn hP hP2 hl hm
          go_enter Tryd.func5, Tryd.ntmps5
          go_wp2_with fail
          refine (AW.out _ HI.out).mono ?_
          rintro e w1 ⟨rfl, b⟩
          have HI := Lib.hid (HI.out.trans (b.mono HI.out.size))
          clear b
          go_wp2_with fail
          refine (OW.out _ HI.out).mono ?_
          rintro e w2 ⟨A2, c2, rfl, ho, b⟩
          have HO := Lib.hid (ho.down (Nat.zero_le _))
          have HI := Lib.hid (HI.out.trans (b.mono HI.out.size))
          clear b ho
          go_wp2_with fail
          refine (KP.out _ _ _ HI.out HO.out.shps).mono ?_
          rintro e w3 ⟨A3, n3, c3, rfl, hna, ho, b⟩
          have HO := Lib.hid (HO.out.below b)
          have HAt := Lib.hid (ho.down (Nat.zero_le _))
          have HI := Lib.hid (HI.out.trans (b.mono HI.out.size))
          clear b ho
          have HNA := Lib.hid hna
          clear hna
          clear HO
          go_wp2_with fail
          refine (OW.out _ HI.out).mono ?_
          rintro e w4 ⟨A4, c4, rfl, ho, b⟩
          have HAt := Lib.hid (HAt.out.below b)
          have HO := Lib.hid (ho.down (Nat.zero_le _))
          have HI := Lib.hid (HI.out.trans (b.mono HI.out.size))
          clear b ho
          go_wp2_with fail
          refine (KQ.out _ _ _ HI.out HO.out.shps).mono ?_
          rintro e w5 ⟨A5, n5, c5, rfl, hna, ho, b⟩
          have HAt := Lib.hid (HAt.out.below b)
          have HO := Lib.hid (HO.out.below b)
          have HBt := Lib.hid (ho.down (Nat.zero_le _))
          have HI := Lib.hid (HI.out.trans (b.mono HI.out.size))
          clear b ho
          have HNB := Lib.hid hna
          clear hna
          clear HO
          go_wp2
          go_ret
          exact ⟨rfl, HI.out⟩
  · clear hS hA hT hn
    have hl20 : 20 < n := by omega
    go_enter Tryd.func5, Tryd.ntmps5
    go_wp2_with fail
    refine (AW.out _ HI.out).mono ?_
    rintro e w1 ⟨rfl, b⟩
    have HI := Lib.hid (HI.out.trans (b.mono HI.out.size))
    clear b
    go_wp2_with fail
    refine (AW.out _ HI.out).mono ?_
    rintro e w2 ⟨rfl, b⟩
    have HI := Lib.hid (HI.out.trans (b.mono HI.out.size))
    clear b
    go_wp2
    go_ret
    exact ⟨rfl, HI.out⟩
end Go.Proofs.YtngdbbligebcbaaDoor
