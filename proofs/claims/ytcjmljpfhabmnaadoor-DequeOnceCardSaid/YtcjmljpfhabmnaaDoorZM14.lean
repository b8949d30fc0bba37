/- What layer 12's rows hand over: a list of acts, in the seat YtcjmljpfhabmnaaDoor.
   The contract of trefoilref04.Has in the seat YtcjmljpfhabmnaaDoor.
   DequeOnce in the seat YtcjmljpfhabmnaaDoor: its walk.
   DequeThief in the seat YtcjmljpfhabmnaaDoor: its walk.
   No statement is proved here. -/
import Derived.Test.YtcjmljpfhabmnaaDoorZM12
import Derived.Test.YtcjmljpfhabmnaaDoorZM3
import Derived.Test.YtcjmljpfhabmnaaDoorZLawPlay
set_option linter.unusedSimpArgs false
set_option linter.unusedVariables false
namespace Go.Proofs.YtcjmljpfhabmnaaDoor
open Go.ChangeShapes Go.WideShapes Go.ChangeAt Go.RowKit Go.Joins Go.Deep

/-- Acts that came in: an act lies as its one number. -/
structure InA (w : World) (A : Option Addr) (n c : Nat) (Ks : List Int) : Prop where
  hn : Ks.length = n
  big : n ≤ 9223372036854775807
  ints : Ints w w.heap.size A Ks
  hA : A = none → n = 0 ∧ c = 0
theorem InA.below {w w' : World} {A : Option Addr} {n c : Nat} {Ks : List Int} (h : InA w A n c Ks) (hb : Below w.heap.size w w') : InA w' A n c Ks := ⟨h.hn, h.big, (h.ints.below hb).more hb.size, h.hA⟩
section
variable {H : Type} {enc : TypeId × Value → H} {W : World}
set_option maxRecDepth 100000 in
theorem open_acts {base : Nat} {v : Value} {d : DataW H} {p : List MemPlace}
    (hv : Value.okWide Tryd.prog W .any base 22 v) (h : DataW.Trod enc Tryd.prog W 0 (fun _ => true) true 22 v d p) :
    ∃ A n c zs, v = .slice A n c ∧ InA W A n c zs := by
  obtain ⟨a0, len0, cap0, rfl⟩ := okWide_slice Tryd.underlying22 hv
  obtain ⟨fuel, h0⟩ := h
  have ec : (Value.slice a0 len0 cap0).cells.toList = [Value.slice a0 len0 cap0] := rfl
  rw [ec] at h0
  rcases open_slice1 Tryd.underlying22 (by kernel_rfl) h0 with ⟨hcs, _⟩ | ⟨a, len, cap, m, nn, V, D, Pl, hcs, _, hl, hm, hmm, _, hx⟩
  · simp at hcs
    obtain ⟨rfl, rfl, rfl⟩ := hcs
    exact ⟨none, 0, 0, [], rfl, rfl, by omega, fun h => absurd h (by simp), fun _ => ⟨rfl, rfl⟩⟩
  · simp at hcs
    obtain ⟨rfl, rfl, rfl⟩ := hcs
    have hlm : len0 ≤ m := by rw [hmm]; simpa using hl
    have each : ∀ i, i < m → ∃ q : Int, W.cell? (a.add i) = some (.int .i64 q) := fun i hi => by
      obtain ⟨c0, t0⟩ := hx i hi
      obtain ⟨xs, k, _, _, _, hxl, hf⟩ := DataW.trod_struct Tryd.underlying36 t0
      match xs, hxl with
      | [y0], _ =>
        have g0 := hf 0 _ rfl
        have ci : Tryd.prog.cellsOf 3 = 1 := by kernel_rfl
        obtain ⟨z0, e0, _, _⟩ := DataW.trod_int (x := y0) Tryd.underlying3 g0
        simp [ci] at e0
        rw [e0] at c0
        exact ⟨z0, c0⟩
    obtain ⟨q, hq⟩ := choose_lt each
    refine ⟨some a, len0, cap0, (List.range len0).map q, rfl, by simp, by unfold maxLen at hm; omega, fun hp => ?_, fun e => by cases e⟩
    have hp : 0 < len0 := by simpa using hp
    have h0 := hq 0 (by omega)
    obtain ⟨b, off, rfl⟩ : ∃ b off, a = ⟨b, off, none⟩ := by
      obtain ⟨b, off, spot⟩ := a
      have hspot : spot = none := World.cell?_spot h0
      exact ⟨b, off, by rw [hspot]⟩
    rw [addr_add] at h0
    refine ⟨b, off, rfl, cell_below h0, fun k hk => ?_⟩
    have hk : k < len0 := by simpa using hk
    have := hq k (by omega)
    rw [addr_add] at this
    rw [this, List.getD_eq_getElem?_getD, List.getElem?_map, List.getElem?_range hk]
    rfl
end
end Go.Proofs.YtcjmljpfhabmnaaDoor
set_option linter.unusedVariables false
namespace Go.Proofs.YtcjmljpfhabmnaaDoor
open Go.RowKit

theorem mem_take_snoc {α : Type} [DecidableEq α] {l : List α} {j : Nat} {e x : α} (h : l[j]? = some e) : x ∈ l.take (j + 1) ↔ x ∈ l.take j ∨ x = e := by
  rw [List.take_add_one, h]
  simp
set_option maxHeartbeats 1000000 in
theorem has_any (A : Option Addr) (c : Nat) (zs : List Int) (x : Int) (w : World) (len : Nat) (hn : zs.length = len) (hl : len ≤ 1000) (hI : Ints w w.heap.size A zs) :
    Calls Tryd.prog 9 #[.slice A len c, .int .i64 x] w fun e w' => e = .returned (.bool (decide (x ∈ zs))) ∧ w = w' := by
  have HI := Lib.hid hI
  have HM := Lib.hid hn
  obtain ⟨r, hr⟩ : ∃ r, r = decide (x ∈ zs) := ⟨_, rfl⟩
  rw [← hr]
  have HR := Lib.hid hr
  clear hI hn hr
  go_enter Tryd.func9, Tryd.ntmps9
  go_wp2
  go_loop [5] (fun i => ∃ j : Nat, j ≤ len ∧ i = .int .i64 j ∧ Hid (x ∉ zs.take j)) (fun i => len - (intOf i).toNat)
  case atStart => exact ⟨0, Nat.zero_le _, rfl, Lib.hid (by simp)⟩
  case round =>
    obtain ⟨j, hj, rfl, HN⟩ := hrel
    by_cases hlt : j < len
    · obtain ⟨bk, o, z, rfl, hbg, hzj, hc1⟩ := HI.out.at_ (k := j) (by rw [HM.out]; exact hlt)
      have HS := Lib.hid (mem_take_snoc (x := x) hzj)
      have HZJ := Lib.hid hzj
      clear hzj
      by_cases h1 : z = x
      · have hin : x ∈ zs := by subst h1; exact List.mem_of_getElem? HZJ.out
        have HIN := Lib.hid (decide_eq_true hin)
        clear hin
        go_wp2
        go_ret
        exact ⟨by rw [HR.out, HIN.out]; rfl, rfl⟩
      · have h3 : (z == x) = false := by simpa using h1
        go_wp2
        go_round
        case rel => exact ⟨j + 1, by omega, by go_num, Lib.hid (by rw [HS.out]; rintro (h | h); exact HN.out h; exact h1 h.symm)⟩
        case measure => simp [intOf]; omega
    · obtain rfl : j = len := by omega
      have hno : x ∉ zs := by
        have h := HN.out
        rwa [List.take_of_length_le (by rw [HM.out]; omega)] at h
      have HNO := Lib.hid (decide_eq_false hno)
      clear hno
      go_wp2
      go_ret
      exact ⟨by rw [HR.out, HNO.out]; rfl, rfl⟩
end Go.Proofs.YtcjmljpfhabmnaaDoor
set_option linter.unusedVariables false
set_option linter.unusedSimpArgs false
namespace Go.Proofs.YtcjmljpfhabmnaaDoor
open Go Go.RowKit

theorem once_take {got : List Int} {i : Nat} {e x : Int} (h : got[i]? = some e) : ((got.take (i + 1)).count x : Int) = (got.take i).count x + (if e = x then 1 else 0) := by
  rw [List.take_add_one, h]
  simp only [Option.toList_some, List.count_append, List.count_cons, List.count_nil]
  by_cases he : e = x
  · simp [he]
  · simp [he]
/-- What play hands out, at the end. -/
theorem PlayAt.last {N : Nat} {Ks : List Int} {P : Nat} {R : List Int} {T B : Int} {tk : Nat → Tkr} {got : List Int} (h : PlayAt N Ks (Ks.length + 32) P R T B tk got) (hs : SizeOk N) (hK : Ks.length ≤ 200) :
    chkQE R.length T B = 0 ∧ itemsE R T B = itemsD R T B ∧ (∀ x : Int, 1 ≤ x → x ≤ P → got.count x + (if x ∈ itemsD R T B then 1 else 0) = 1) ∧ (itemsD R T B).Pairwise (· < ·) ∧ got.length + (itemsD R T B).length = P := by
  have hi := h.over (by omega) 0 (by decide)
  obtain ⟨q1, q2, q3, q4⟩ := h.inv.told hi
  have f1 := h.inv.fine
  have hp := h.pm
  have c1 : ChkQ R.length T B := by rw [h.inv.len]; exact ⟨hs, f1.1.1, by omega, f1.2.1, f1.2.2.1⟩
  refine ⟨if_pos c1, ?_, q1, q2, q3⟩
  unfold itemsE
  rw [if_pos c1]
section
variable {AL : Option Addr} {m cL : Nat} {Ks : List Int}
set_option maxRecDepth 100000 in
set_option maxHeartbeats 16000000 in
theorem onceD_any (N : Int) (w : World) (hT : DTab w) (hm : Ks.length = m) (hL : Ints w w.heap.size AL Ks) :
    Calls Tryd.prog 3 #[.int .i64 N, .slice AL m cL] w fun e w' => e = .returned (.bool true) ∧ Below w.heap.size w w' := by
  have HT := Lib.hid hT
  have HL := Lib.hid hL
  have HM := Lib.hid hm
  have CA := Lib.hid (awakeD_any w hT)
  clear hT hL
  by_cases h200 : 200 < m
  · have hd : decide (200 < m) = true := decide_eq_true h200
    have hd' : decide ((200 : Int) < (m : Int)) = true := decide_eq_true (by omega)
    go_enter Tryd.func3, Tryd.ntmps3
    go_wp2_with fail
    refine CA.out.mono ?_
    rintro e w1 ⟨rfl, b1⟩
    have B1 := Lib.hid b1
    have CA1 := Lib.hid (awakeD_any w1 (HT.out.via b1))
    clear b1 CA
    go_wp2_with fail
    refine CA1.out.mono ?_
    rintro e w2 ⟨rfl, b2⟩
    have B2 := Lib.hid (B1.out.trans (b2.mono B1.out.size))
    clear b2 CA1 B1
    go_wp2
    go_ret
    exact ⟨rfl, B2.out⟩
  have hd : decide (200 < m) = false := decide_eq_false h200
  have hd' : decide ((200 : Int) < (m : Int)) = false := decide_eq_false (by omega)
  have HM2 : Hid (m ≤ 200) := Lib.hid (by omega)
  clear h200
  by_cases hs : SizeOk N
  case neg =>
    have hsd : decide (SizeOk N) = false := decide_eq_false hs
    go_enter Tryd.func3, Tryd.ntmps3
    go_wp2_with fail
    refine CA.out.mono ?_
    rintro e w1 ⟨rfl, b1⟩
    have B1 := Lib.hid b1
    have CA1 := Lib.hid (awakeD_any w1 (HT.out.via b1))
    have CS := Lib.hid (rsize_any N w1)
    rw [hsd] at CS
    clear b1 CA
    go_wp2_with fail
    refine CS.out.mono ?_
    rintro e w1' ⟨rfl, rfl⟩
    clear CS
    go_wp2_with fail
    refine CA1.out.mono ?_
    rintro e w2 ⟨rfl, b2⟩
    have B2 := Lib.hid (B1.out.trans (b2.mono B1.out.size))
    clear b2 CA1 B1
    go_wp2
    go_ret
    exact ⟨rfl, B2.out⟩
  obtain ⟨N, rfl⟩ : ∃ q : Nat, N = q := ⟨N.toNat, by have := hs.bounds; omega⟩
  have hsd : decide (SizeOk (N : Int)) = true := decide_eq_true hs
  have HS := Lib.hid hs
  clear hs
  go_enter Tryd.func3, Tryd.ntmps3
  go_wp2_with fail
  refine CA.out.mono ?_
  rintro e w1 ⟨rfl, b1⟩
  have B1 := Lib.hid b1
  have CS := Lib.hid (rsize_any N w1)
  rw [hsd] at CS
  have CP := Lib.hid (play_any N HS.out AL m cL Ks w1 (HT.out.via b1) hm HM2.out ((HL.out.below b1).more b1.size))
  clear b1 CA hsd hm
  go_wp2_with fail
  refine CS.out.mono ?_
  rintro e w1' ⟨rfl, rfl⟩
  clear CS
  go_wp2_with fail
  refine CP.out.mono ?_
  rintro e v2 ⟨A, n, c, R, T, B, tk, F, k, d, got, P, rfl, PA, ho, hl, hb⟩
  obtain ⟨w2, hw⟩ : ∃ w2, w2 = v2.alloc (.cells #[.slice A n c, .int .i64 T, .int .i64 B] 27) := ⟨_, rfl⟩
  obtain ⟨gq, hgq⟩ : ∃ gq, gq = v2.heap.size := ⟨_, rfl⟩
  have hbb : Below w1.heap.size w1 w2 := by rw [hw]; exact hb.trans ((below_alloc _).mono hb.size)
  have B2 := Lib.hid (B1.out.trans (hbb.mono B1.out.size))
  have X2 : Hid (RowV gq 27 [.slice A n c, .int .i64 T, .int .i64 B] w2) := Lib.hid (by rw [hw, hgq]; exact RowV.new _ _ _)
  have HG : Hid (OwnI w2 w1.heap.size (.slice F k d) got) := Lib.hid (by rw [hw]; exact hl.below (below_alloc _))
  have hqq : IsQ w2 A n c R := by rw [hw]; exact ho.isQ.below (below_alloc _)
  have CI := Lib.hid (ditems_any T B w2 hqq (HT.out.via B2.out))
  have CK := fun W (hW : Below w2.heap.size w2 W) => dcheck_any A n c T B W hqq.ln (HT.out.via (B2.out.trans (hW.mono B2.out.size)))
  have CKH := Lib.hid CK
  have HR := Lib.hid hqq.hn
  have HW2 := Lib.hid hw
  have HGQ := Lib.hid hgq
  obtain ⟨l1, l2, l3, l4, l5⟩ := PA.last HS.out (by rw [HM.out]; exact HM2.out)
  have gl := PA.gl
  rw [HM.out] at gl
  have HPL := Lib.hid PA.pm
  rw [l2] at CI
  obtain ⟨L, hLL⟩ : ∃ L, L = itemsD R T B := ⟨_, rfl⟩
  rw [← hLL] at CI l3 l4 l5
  have HL1 := Lib.hid (hqq.hn ▸ l1)
  have HL3 := Lib.hid l3
  have HL4 := Lib.hid l4
  have HL5 := Lib.hid l5
  have hkk : got.length = k := hl.len_eq
  have HKK := Lib.hid hkk
  have hk200 : k ≤ 232 := by have := HM2.out; omega
  have hP200 : P ≤ 200 := by have := HM2.out; have := HPL.out; have := HM.out; omega
  clear hbb hb ho hl hqq CK CP B1 hw hgq PA l1 l2 l3 l4 l5 gl hLL hkk
  go_upto_region 4 with fail
  rw [← HW2.out, ← HGQ.out]
  clear HW2 HGQ
  have c0 := X2.out.cell (j := 0) rfl
  have c1 := X2.out.cell (j := 1) rfl
  have c2 := X2.out.cell (j := 2) rfl
  go_wp2_with fail
  refine CI.out.mono ?_
  rintro e w3 ⟨A4, n4, c4, rfl, ho, hb⟩
  have B3 := Lib.hid (B2.out.trans (hb.mono B2.out.size))
  have X3 := Lib.hid (X2.out.below hb X2.out.lt)
  have HG3 := Lib.hid (HG.out.below hb)
  have HQ4 := Lib.hid ho.isQ
  have CK3 := Lib.hid (fun W (hW : Below w3.heap.size w3 W) => HL1.out ▸ CKH.out W (hb.trans (hW.mono hb.size)))
  have hn4 : L.length = n4 := ho.2.1
  have HN4 := Lib.hid hn4
  have hl4 : n4 ≤ 200 := by have := HL5.out; omega
  clear c0 c1 c2 CI ho hb B2 X2 HG CKH hn4
  go_wp2_with fail
  go_loopg [10] P (fun g x wr => ∃ q : Nat, g + q = P ∧ x = .int .i64 ((q : Int) + 1) ∧ w3 = wr)
  case atStart => exact ⟨0, by omega, by simp, rfl⟩
  case round =>
    obtain ⟨q, hq, rfl, rfl⟩ := hrel
    by_cases hle : q + 1 ≤ P
    · have d1 : decide ((q : Int) + 1 ≤ P) = true := decide_eq_true (by omega)
      have d1' : decide (q + 1 ≤ P) = true := decide_eq_true hle
      go_wp2_with fail
      go_loopg [11, 12] k (fun g y i wr => ∃ a : Nat, g + a = k ∧ y = .int .i64 ((got.take a).count ((q : Int) + 1) : Nat) ∧ i = .int .i64 a ∧ w3 = wr)
      case atStart => exact ⟨0, by omega, by simp, by simp, rfl⟩
      case round =>
        obtain ⟨a, ha, rfl, rfl, rfl⟩ := hrel
        by_cases hak : a < k
        · have d2 : decide (a < k) = true := decide_eq_true hak
          obtain ⟨bb, off, e, hA0, hbb, hx, hcc⟩ := HG3.out.ints.at_ (k := a) (by rw [HKK.out]; exact hak)
          subst hA0
          have HX := Lib.hid hx
          have HT1 := Lib.hid (once_take (x := (q : Int) + 1) hx)
          have hcb : (List.count ((q : Int) + 1) (got.take a) : Int) ≤ 1000 := by
            have h1 := List.count_le_length (a := (q : Int) + 1) (l := got.take a)
            have h2 := List.length_take_le a got
            omega
          have hwr : wrap64 ((List.count ((q : Int) + 1) (got.take a) : Int) + 1) = (List.count ((q : Int) + 1) (got.take a) : Int) + 1 := by unfold wrap64; omega
          clear hx
          by_cases he : e = (q : Int) + 1
          · have d3 : (e == (q : Int) + 1) = true := by simp [he]
            rw [if_pos he] at HT1
            go_wp2_with fail
            go_roundg (k - (a + 1))
            case measure => omega
            case rel => exact ⟨a + 1, by omega, by rw [HT1.out]; first | rfl | rw [hwr], by simp, rfl⟩
          · have d3 : (e == (q : Int) + 1) = false := by simp [he]
            rw [if_neg he] at HT1
            go_wp2_with fail
            go_roundg (k - (a + 1))
            case measure => omega
            case rel => exact ⟨a + 1, by omega, by rw [HT1.out, Int.add_zero], by simp, rfl⟩
        · have d2 : decide (a < k) = false := decide_eq_false hak
          have hak' : a = k := by omega
          have hcnt : got.take a = got := List.take_of_length_le (by rw [HKK.out]; omega)
          rw [hcnt]
          have CH := Lib.hid (has_any A4 c4 L ((q : Int) + 1) w3 n4 HN4.out (by omega) HQ4.out.ints)
          have h3 := HL3.out ((q : Int) + 1) (by omega) (by omega)
          by_cases hin : ((q : Int) + 1) ∈ L
          · have d4 : decide (((q : Int) + 1) ∈ L) = true := decide_eq_true hin
            rw [d4] at CH
            rw [if_pos hin] at h3
            obtain ⟨z, hz⟩ : ∃ z, z = List.count ((q : Int) + 1) got := ⟨_, rfl⟩
            rw [← hz] at h3 ⊢
            obtain rfl : z = 0 := by omega
            clear hz h3
            go_wp2_with fail
            refine CH.out.mono ?_
            rintro e w4 ⟨rfl, rfl⟩
            clear CH
            go_wp2_with fail
            go_roundg (P - (q + 1))
            case measure => omega
            case rel => exact ⟨q + 1, by omega, by simp, rfl⟩
          · have d4 : decide (((q : Int) + 1) ∈ L) = false := decide_eq_false hin
            rw [d4] at CH
            rw [if_neg hin] at h3
            obtain ⟨z, hz⟩ : ∃ z, z = List.count ((q : Int) + 1) got := ⟨_, rfl⟩
            rw [← hz] at h3 ⊢
            obtain rfl : z = 1 := by omega
            clear hz h3
            go_wp2_with fail
            refine CH.out.mono ?_
            rintro e w4 ⟨rfl, rfl⟩
            clear CH
            go_wp2_with fail
            go_roundg (P - (q + 1))
            case measure => omega
            case rel => exact ⟨q + 1, by omega, by simp, rfl⟩
    · have d1 : decide ((q : Int) + 1 ≤ P) = false := decide_eq_false (by omega)
      have d1' : decide (q + 1 ≤ P) = false := decide_eq_false hle
      go_wp2_with fail
      go_loopg [13] n4 (fun g x wr => ∃ a : Nat, g + a = n4 ∧ x = .int .i64 ((a : Int) + 1) ∧ Hid (Below w3.heap.size w3 wr))
      case atStart => exact ⟨0, by omega, by simp, Lib.hid (Below.refl _ _)⟩
      case round =>
        obtain ⟨a, ha, rfl, hbw⟩ := hrel
        have HQ5 := Lib.hid (HQ4.out.below hbw.out)
        have X5 := Lib.hid (X3.out.below hbw.out X3.out.lt)
        have CK5 := Lib.hid (CK3.out wr hbw.out)
        have B5' := Lib.hid (B3.out.trans (hbw.out.mono B3.out.size))
        by_cases hak : a + 1 < n4
        · have d2 : decide ((a : Int) + 1 < n4) = true := decide_eq_true (by omega)
          have d2' : decide (a + 1 < n4) = true := decide_eq_true hak
          obtain ⟨bb, off, e, hA0, hbb, hx, hcc⟩ := HQ5.out.ints.at_ (k := a) (by rw [HN4.out]; omega)
          obtain ⟨bb2, off2, e2, hA02, hbb2, hx2, hcc2⟩ := HQ5.out.ints.at_ (k := a + 1) (by rw [HN4.out]; omega)
          subst hA0
          injection hA02 with hA02
          injection hA02 with z1 z2 _
          subst z1
          subst z2
          have hlt : e < e2 := by
            have := List.pairwise_iff_getElem.mp HL4.out a (a + 1) (by rw [HN4.out]; omega) (by rw [HN4.out]; omega) (by omega)
            obtain ⟨_, e1⟩ := List.getElem?_eq_some_iff.mp hx
            obtain ⟨_, e2'⟩ := List.getElem?_eq_some_iff.mp hx2
            rw [e1, e2'] at this
            exact this
          have d3 : decide (e2 ≤ e) = false := decide_eq_false (by omega)
          clear hx hx2
          go_wp2_with fail
          go_quiet (fail)
          go_wp2_with fail
          go_roundg (n4 - (a + 1))
          case measure => omega
          case rel => exact ⟨a + 1, by omega, by first | rfl | simp, Lib.hid (by first | exact hbw.out.trans ((below_drewN (Below.refl _ _) _).mono hbw.out.size) | exact hbw.out)⟩
        · have d2 : decide ((a : Int) + 1 < n4) = false := decide_eq_false (by omega)
          have d2' : decide (a + 1 < n4) = false := decide_eq_false hak
          have c0 := X5.out.cell (j := 0) rfl
          have c1 := X5.out.cell (j := 1) rfl
          have c2 := X5.out.cell (j := 2) rfl
          have h5 : k + n4 = P := by rw [← HKK.out, ← HN4.out]; exact HL5.out
          have d5 : ((k : Int) + n4 == (P : Int)) = true := by rw [← h5]; simp
          go_wp2_with fail
          refine CK5.out.mono ?_
          rintro e w5 ⟨rfl, hb5⟩
          have B5 := Lib.hid (B5'.out.trans (hb5.mono B5'.out.size))
          clear hb5
          go_wp2
          go_ret
          exact ⟨rfl, B5.out⟩
theorem walk_DequeOnce (w : World) (hT : DTab w) (N : Int) (_ : -9223372036854775808 ≤ N ∧ N ≤ 9223372036854775807) (g : InA w AL m cL Ks) : Calls Tryd.prog 3 #[.int .i64 N, .slice AL m cL] w fun e w' => e = .returned (.bool true) ∧ Below w.heap.size w w' := onceD_any N w hT g.hn g.ints
end
end Go.Proofs.YtcjmljpfhabmnaaDoor
set_option linter.unusedVariables false
set_option linter.unusedSimpArgs false
namespace Go.Proofs.YtcjmljpfhabmnaaDoor
open Go Go.RowKit

theorem act_cell_info : (Tryd.prog.info? 36).map (fun i => (i.zero, i.size, i.bytes)) = some (some (.agg #[.int .i64 0]), 1, 8) := by kernel_rfl
/-- Acts in a row of the call's own. -/
def OwnA (w : World) (base : Nat) (v : Value) (zs : List Int) : Prop := w.ownsRow base 36 1 v zs.length (zs.map (Value.int .i64))
theorem OwnA.ints {w : World} {b : Nat} {A : Option Addr} {n c : Nat} {zs : List Int} (h : OwnA w b (.slice A n c) zs) : Ints w w.heap.size A zs ∧ zs.length = n := by
  obtain ⟨A', c', e1, hI⟩ := Ints.of_own h
  injection e1 with e2 e3 e4
  subst e2
  exact ⟨hI, e3.symm⟩
/-- The acts that aren't 1. -/
def notOne (Ks : List Int) : List Int := Ks.filter fun K => decide (K ≠ 1)
theorem notOne_take {Ks : List Int} {i : Nat} {e : Int} (h : Ks[i]? = some e) : notOne (Ks.take (i + 1)) = if e = 1 then notOne (Ks.take i) else notOne (Ks.take i) ++ [e] := by
  unfold notOne
  rw [List.take_add_one, h, Option.toList_some, List.filter_append]
  by_cases he : e = 1
  · rw [if_pos he]
    simp [he]
  · rw [if_neg he]
    simp [he]
theorem notOne_len (Ks : List Int) (i : Nat) : (notOne (Ks.take i)).length ≤ Ks.length := Nat.le_trans (List.length_filter_le _ _) (by rw [List.length_take]; omega)
theorem notOne_all (Ks : List Int) : ∀ K ∈ notOne Ks, kOf K ≠ 0 := fun K h => by
  have := (List.mem_filter.mp h).2
  have : K ≠ 1 := by simpa using this
  rcases kOf_cases K with h | h | h | h | h <;> omega
/-- What play hands out where nobody pops. -/
theorem PlayAt.thief {N : Nat} {Ks : List Int} {P j : Nat} {R : List Int} {T B : Int} {tk : Nat → Tkr} {got : List Int} (h : PlayAt N Ks j P R T B tk got) (hK : ∀ K ∈ Ks, kOf K ≠ 0) {i : Nat} {e : Int} (he : got[i]? = some e) : e = (i : Int) + 1 := by
  have hg := (h.st hK).gots
  rw [hg, List.getElem?_map] at he
  have hi : i < (List.range T.toNat).length := by
    cases hq : (List.range T.toNat)[i]? with
    | none => rw [hq] at he; simp at he
    | some q => exact (List.getElem?_eq_some_iff.mp hq).1
  rw [List.length_range] at hi
  rw [List.getElem?_range hi] at he
  simpa using he.symm
section
variable {AL : Option Addr} {m cL : Nat} {Ks : List Int}
set_option maxRecDepth 100000 in
set_option maxHeartbeats 16000000 in
theorem thiefD_any (N : Int) (w : World) (hT : DTab w) (hm : Ks.length = m) (hL : Ints w w.heap.size AL Ks) :
    Calls Tryd.prog 4 #[.int .i64 N, .slice AL m cL] w fun e w' => e = .returned (.bool true) ∧ Below w.heap.size w w' := by
  have HT := Lib.hid hT
  have HL := Lib.hid hL
  have HM := Lib.hid hm
  have CA := Lib.hid (awakeD_any w hT)
  clear hT hL
  by_cases h200 : 200 < m
  · have hd : decide (200 < m) = true := decide_eq_true h200
    have hd' : decide ((200 : Int) < (m : Int)) = true := decide_eq_true (by omega)
    go_enter Tryd.func4, Tryd.ntmps4
    go_wp2_with fail
    refine CA.out.mono ?_
    rintro e w1 ⟨rfl, b1⟩
    have B1 := Lib.hid b1
    have CA1 := Lib.hid (awakeD_any w1 (HT.out.via b1))
    clear b1 CA
    go_wp2_with fail
    refine CA1.out.mono ?_
    rintro e w2 ⟨rfl, b2⟩
    have B2 := Lib.hid (B1.out.trans (b2.mono B1.out.size))
    clear b2 CA1 B1
    go_wp2
    go_ret
    exact ⟨rfl, B2.out⟩
  have hd : decide (200 < m) = false := decide_eq_false h200
  have hd' : decide ((200 : Int) < (m : Int)) = false := decide_eq_false (by omega)
  have HM2 : Hid (m ≤ 200) := Lib.hid (by omega)
  clear h200
  by_cases hs : SizeOk N
  case neg =>
    have hsd : decide (SizeOk N) = false := decide_eq_false hs
    go_enter Tryd.func4, Tryd.ntmps4
    go_wp2_with fail
    refine CA.out.mono ?_
    rintro e w1 ⟨rfl, b1⟩
    have B1 := Lib.hid b1
    have CA1 := Lib.hid (awakeD_any w1 (HT.out.via b1))
    have CS := Lib.hid (rsize_any N w1)
    rw [hsd] at CS
    clear b1 CA
    go_wp2_with fail
    refine CS.out.mono ?_
    rintro e w1' ⟨rfl, rfl⟩
    clear CS
    go_wp2_with fail
    refine CA1.out.mono ?_
    rintro e w2 ⟨rfl, b2⟩
    have B2 := Lib.hid (B1.out.trans (b2.mono B1.out.size))
    clear b2 CA1 B1
    go_wp2
    go_ret
    exact ⟨rfl, B2.out⟩
  obtain ⟨N, rfl⟩ : ∃ q : Nat, N = q := ⟨N.toNat, by have := hs.bounds; omega⟩
  have hsd : decide (SizeOk (N : Int)) = true := decide_eq_true hs
  have HS := Lib.hid hs
  clear hs
  go_enter Tryd.func4, Tryd.ntmps4
  go_wp2_with fail
  refine CA.out.mono ?_
  rintro e w1 ⟨rfl, b1⟩
  have B1 := Lib.hid b1
  have CS := Lib.hid (rsize_any N w1)
  rw [hsd] at CS
  have HL1 := Lib.hid ((HL.out.below b1).more b1.size)
  clear b1 CA hsd hm
  go_wp2_with fail
  refine CS.out.mono ?_
  rintro e w1' ⟨rfl, rfl⟩
  clear CS
  go_wp2_with fail
  go_loopg [5, 6] m (fun g l i wr => ∃ (a : Nat) (F : Option Addr) (d : Nat), g + a = m ∧ i = .int .i64 a ∧ l = .slice F (notOne (Ks.take a)).length d ∧ Hid (OwnA wr w1.heap.size (.slice F (notOne (Ks.take a)).length d) (notOne (Ks.take a)) ∧ Below w1.heap.size w1 wr))
  case atStart =>
    exact ⟨0, some ⟨w1.heap.size, 0, none⟩, 0, by omega, by simp, by simp [notOne], Lib.hid ⟨⟨rfl, .inr ⟨w1.heap.size, 0, #[], rfl, Nat.le_refl _, heap_alloc_last _ _, Nat.le_refl _, Nat.zero_le _, rfl, rfl⟩⟩, below_alloc _⟩⟩
  case round =>
    obtain ⟨a, F, d, ha, rfl, rfl, HO⟩ := hrel
    by_cases ham : a < m
    · have d1 : decide (a < m) = true := decide_eq_true ham
      have d1' : decide ((a : Int) < (m : Int)) = true := decide_eq_true (by omega)
      obtain ⟨bb, off, K, hA0, hbb, hx, hcc⟩ := (HL1.out.below HO.out.2).at_ (k := a) (by rw [HM.out]; exact ham)
      subst hA0
      have HT1 := Lib.hid (notOne_take hx)
      have hwr : wrap64 ((a : Int) + 1) = (a : Int) + 1 := by have := HM2.out; unfold wrap64; omega
      have HSZ := Lib.hid HO.out.2.size
      have hlen : (notOne (Ks.take a)).length ≤ 1000 := by have := notOne_len Ks a; have := HM.out; have := HM2.out; omega
      clear hx
      by_cases hK : K = 1
      · have d2 : (K != 1) = false := by simp [hK]
        rw [if_pos hK] at HT1
        go_wp2_with fail
        go_roundg (m - (a + 1))
        case measure => omega
        case rel => exact ⟨a + 1, F, d, by omega, by simp [hwr], by rw [HT1.out], by rw [HT1.out]; exact HO⟩
      · have d2 : (K != 1) = true := by simp [hK]
        rw [if_neg hK] at HT1
        obtain ⟨L0, hL0⟩ : ∃ L0, L0 = notOne (Ks.take a) := ⟨_, rfl⟩
        rw [← hL0] at HO hlen HT1 ⊢
        go_wp2_with (at_builtin; refine wpList_pushXs rfl _ _ 36 22 1 8 (.agg #[.int .i64 0]) Tryd.underlying22 act_cell_info rfl (by omega) (by omega) rfl rfl wr w1.heap.size L0.length _ (L0.map (Value.int .i64)) [.int .i64 K] HO.out.1 rfl (by simp [Value.oneCell']) hlen HSZ.out (by first | rfl | simp [Act.eval]) (by first | rfl | simp [Act.eval]) ?_; intro F6 d6 w6 ho6 hr6 hat6; (have HO6 := Lib.hid ho6); (have HR6 := Lib.hid hr6); clear ho6 hr6 hat6)
        go_roundg (m - (a + 1))
        case measure => omega
        case rel =>
          have ho6' : OwnA w6 w1.heap.size (.slice F6 (L0.length + 1) d6) (L0 ++ [K]) := by
            unfold OwnA
            rw [List.map_append, List.length_append]
            exact HO6.out
          exact ⟨a + 1, F6, d6, by omega, by simp [hwr], by rw [HT1.out]; simp [hL0], by
            rw [HT1.out, show (L0 ++ [K]).length = L0.length + 1 by simp]
            exact Lib.hid ⟨ho6', HO.out.2.trans (HR6.out.below HSZ.out)⟩⟩
    · have d1 : decide (a < m) = false := decide_eq_false ham
      have d1' : decide ((a : Int) < (m : Int)) = false := decide_eq_false (by omega)
      have hall : notOne (Ks.take a) = notOne Ks := by rw [List.take_of_length_le (by rw [HM.out]; omega)]
      rw [hall] at HO ⊢
      obtain ⟨L0, hL0⟩ : ∃ L0, L0 = notOne Ks := ⟨_, rfl⟩
      have hall2 : ∀ K ∈ L0, kOf K ≠ 0 := by rw [hL0]; exact notOne_all Ks
      have hlen : L0.length ≤ 200 := by have := notOne_len Ks Ks.length; rw [List.take_length] at this; rw [hL0]; have := HM.out; have := HM2.out; omega
      rw [← hL0] at HO ⊢
      have HALL := Lib.hid hall2
      have BW := Lib.hid (B1.out.trans (HO.out.2.mono B1.out.size))
      have CP := Lib.hid (play_any N HS.out F L0.length d L0 wr (HT.out.via BW.out) rfl hlen HO.out.1.ints.1)
      clear hall hL0 hall2 HL1
      go_wp2_with fail
      refine CP.out.mono ?_
      rintro e v2 ⟨A, n, c, R, T, B, tk, G, k, d', got, P, rfl, PA, ho, hl, hb⟩
      have BV := Lib.hid (BW.out.trans (hb.mono BW.out.size))
      have HG := Lib.hid hl
      have HKK := Lib.hid hl.len_eq
      have HPA := Lib.hid PA
      clear CP ho hl hb PA HO
      go_upto_region 10 with fail
      obtain ⟨w2, hw⟩ : ∃ w2, w2 = v2.alloc (.cells #[.slice A n c, .int .i64 T, .int .i64 B] 27) := ⟨_, rfl⟩
      have B2 : Hid (Below w.heap.size w w2) := Lib.hid (by rw [hw]; exact BV.out.trans ((below_alloc _).mono BV.out.size))
      have HG2 : Hid (OwnI w2 wr.heap.size (.slice G k d') got) := Lib.hid (by rw [hw]; exact HG.out.below (below_alloc _))
      rw [← hw]
      have hk : k ≤ 232 := by have := HPA.out.gl; rw [← HKK.out]; omega
      clear hw HG BV
      go_wp2_with fail
      go_loopg [11] k (fun g x wz => ∃ q : Nat, g + q = k ∧ x = .int .i64 q ∧ w2 = wz)
      case atStart => exact ⟨0, by omega, by simp, rfl⟩
      case round =>
        obtain ⟨q, hq, rfl, rfl⟩ := hrel
        by_cases hqk : q < k
        · have d3 : decide (q < k) = true := decide_eq_true hqk
          have d3' : decide ((q : Int) < (k : Int)) = true := decide_eq_true (by omega)
          obtain ⟨bb, off, e, hA0, hbb, hx, hcc⟩ := HG2.out.ints.at_ (k := q) (by rw [HKK.out]; exact hqk)
          subst hA0
          obtain rfl := HPA.out.thief HALL.out hx
          have d4 : (((q : Int) + 1) != ((q : Int) + 1)) = false := by simp
          clear hx
          go_wp2_with fail
          go_roundg (k - (q + 1))
          case measure => omega
          case rel => exact ⟨q + 1, by omega, by simp, rfl⟩
        · have d3 : decide (q < k) = false := decide_eq_false hqk
          have d3' : decide ((q : Int) < (k : Int)) = false := decide_eq_false (by omega)
          go_wp2
          go_ret
          exact ⟨rfl, B2.out⟩
theorem walk_DequeThief (w : World) (hT : DTab w) (N : Int) (_ : -9223372036854775808 ≤ N ∧ N ≤ 9223372036854775807) (g : InA w AL m cL Ks) : Calls Tryd.prog 4 #[.int .i64 N, .slice AL m cL] w fun e w' => e = .returned (.bool true) ∧ Below w.heap.size w w' := thiefD_any N w hT g.hn g.ints
end
end Go.Proofs.YtcjmljpfhabmnaaDoor
