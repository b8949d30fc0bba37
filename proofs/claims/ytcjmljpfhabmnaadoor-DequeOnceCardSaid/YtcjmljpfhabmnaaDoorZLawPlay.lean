/- trefoillaw12.play in the seat YtcjmljpfhabmnaaDoor: its contract. No statement is proved here. -/
import Derived.Test.YtcjmljpfhabmnaaDoorZM13
import Derived.Test.YtcjmljpfhabmnaaDoorZM12
import Derived.Test.YtcjmljpfhabmnaaDoorZM10
import Derived.Test.YtcjmljpfhabmnaaDoorZM11
import Derived.Deep.CutRange
import Derived.Deep.LoopGhost
set_option linter.unusedSimpArgs false
set_option linter.unusedVariables false
set_option linter.unusedSimpArgs false
namespace Go.Proofs.YtcjmljpfhabmnaaDoor
open Go Go.RowKit

/-- What play hands out. -/
def GotPlay (N : Nat) (Ks : List Int) (w : World) (e : Ending) (w' : World) : Prop :=
  ∃ (A : Option Addr) (n c : Nat) (R : List Int) (T B : Int) (tk : Nat → Tkr) (F : Option Addr) (k d : Nat) (got : List Int) (P : Nat),
    e = .returned (.tuple #[.agg #[.slice A n c, .int .i64 T, .int .i64 B], .slice F k d, .int .i64 P, .bool true]) ∧ PlayAt N Ks (Ks.length + 32) P R T B tk got ∧
    OwnQ w' w.heap.size A n c R ∧ OwnI w' w.heap.size (.slice F k d) got ∧ Below w.heap.size w w'
theorem results_cell3 {fn : Func} {p a b c : Tmp} {ty : TypeId} (h : fn.results = #[.cell p ty, .tmp a, .tmp b, .tmp c]) (tmps : Array Value) (P : Program) (w : World) :
    (results fn tmps).run P w =
      ((asAddr (tmps.getD p undef)).run P w).andThen fun q w₁ => ((loadVar ty q).run P w₁).andThen fun v w₂ => .ok (.tuple #[v, tmps.getD a undef, tmps.getD b undef, tmps.getD c undef]) w₂ := by
  simp only [results, h]
  simp [Sem.run_bind, Result.andThen]
theorem ret_play {fn : Func} {p a b c : Tmp} (h : fn.results = #[.cell p 27, .tmp a, .tmp b, .tmp c]) {tmps : Array Value} {w : World} {g : Nat} {cs : List Value} {x y z : Value} (hp : tmps.getD p undef = .pointer (some ⟨g, 0, none⟩)) (ha : tmps.getD a undef = x) (hb : tmps.getD b undef = y) (hc : tmps.getD c undef = z)
    (h1 : RowV g 27 cs w) (l1 : cs.length = 3) : (results fn tmps).run Tryd.prog w = .ok (.tuple #[.agg cs.toArray, x, y, z]) w := by
  rw [results_cell3 h, hp, ha, hb, hc]
  simp [asAddr, load_dq h1 l1, Result.andThen]
theorem StP.isQ {wf w : World} {rr gq ga : Nat} {A : Option Addr} {n c : Nat} {vg : Value} {R got : List Int} {T B : Int} {tk : Nat → Tkr} (h : StP wf rr gq ga (.slice A n c) R T B tk vg got w) (hn : R.length = n) (hl : n ≤ 1000) : IsQ w A n c R := own_isQ h.ring hn hl
theorem setT_setT (tk : Nat → Tkr) (k : Nat) (a b : Tkr) : setT (setT tk k a) k b = setT tk k b := by
  funext j
  unfold setT
  by_cases h : j = k <;> simp [h]
theorem ownI_snoc {w : World} {b : Nat} {F : Option Addr} {d : Nat} {got : List Int} {g : Int} (h : w.ownsRow b 3 1 (.slice F (got.length + 1) d) (got.length + 1) (got.map (Value.int .i64) ++ [.int .i64 g])) : OwnI w b (.slice F (got.length + 1) d) (got ++ [g]) := by
  unfold OwnI
  rw [List.map_append, List.length_append]
  exact h
theorem rowV_taker {g b : Nat} {row : Option Nat} {cs : List Value} {w w' : World} (h : RowV g 42 cs w) (hr : RXs 3 b row w w') : RowV g 42 cs w' := hr.heap h (by decide)
def PhiP (b : Nat) (s : Int × Int × Int × Tkr) (R2 : List Int) (A : Option Addr) (n1 c : Nat) (T B : Int) (kn ga : Nat) (t0 : Tkr) : Nat → Value → World → Prop
  | 0, v, w => v = .agg #[.slice A n1 c, .int .i64 T, .int .i64 B]
  | 1, v, w => v = .int .i64 kn
  | 2, v, w => v = .pointer (some ⟨ga, 6 * kn, none⟩)
  | 3, v, w => v = vT t0
  | 4, v, w => ∃ A2 n2 c2, v = .tuple #[.agg #[.slice A2 n2 c2, .int .i64 s.2.1, .int .i64 s.2.2.1], vT s.2.2.2, .int .i64 s.1] ∧ OwnI w b (.slice A2 n2 c2) R2 ∧ R2.length = n2 ∧ n2 ≤ 1000
  | 5, v, w => ∃ A2 n2 c2, v = .tuple #[.agg #[.slice A2 n2 c2, .int .i64 s.2.1, .int .i64 s.2.2.1], vT s.2.2.2, .int .i64 s.1] ∧ OwnI w b (.slice A2 n2 c2) R2 ∧ R2.length = n2 ∧ n2 ≤ 1000
  | 6, v, w => ∃ A2 n2 c2, v = .agg #[.slice A2 n2 c2, .int .i64 s.2.1, .int .i64 s.2.2.1] ∧ OwnI w b (.slice A2 n2 c2) R2 ∧ R2.length = n2 ∧ n2 ≤ 1000
  | 7, v, w => True
  | 8, v, w => True
  | 9, v, w => ∃ x, v = .pointer (some ⟨x, 0, none⟩) ∧ RowV x 27 [.slice none 0 0, .int .i64 0, .int .i64 0] w ∧ b ≤ x
  | 10, v, w => ∃ x, v = .pointer (some ⟨x, 0, none⟩) ∧ RowV x 42 (cT (newTk false)) w ∧ b ≤ x
  | _, _, _ => True
theorem phiP_below {b : Nat} {s : Int × Int × Int × Tkr} {R2 : List Int} {A : Option Addr} {n1 c : Nat} {T B : Int} {kn ga : Nat} {t0 : Tkr} : ∀ kq v w w', PhiP b s R2 A n1 c T B kn ga t0 kq v w → Below w.heap.size w w' → PhiP b s R2 A n1 c T B kn ga t0 kq v w' := by
  intro kq v w w' h hb
  match kq, h with
  | 0, h => exact h
  | 1, h => exact h
  | 2, h => exact h
  | 3, h => exact h
  | 4, h => exact (by obtain ⟨A2, n2, c2, e, ho, q⟩ := h; exact ⟨A2, n2, c2, e, OwnI.below ho hb, q⟩)
  | 5, h => exact (by obtain ⟨A2, n2, c2, e, ho, q⟩ := h; exact ⟨A2, n2, c2, e, OwnI.below ho hb, q⟩)
  | 6, h => exact (by obtain ⟨A2, n2, c2, e, ho, q⟩ := h; exact ⟨A2, n2, c2, e, OwnI.below ho hb, q⟩)
  | 7, h => exact h
  | 8, h => exact h
  | 9, h => exact (by obtain ⟨x, e, hr, hx⟩ := h; exact ⟨x, e, hr.below hb hr.lt, hx⟩)
  | 10, h => exact (by obtain ⟨x, e, hr, hx⟩ := h; exact ⟨x, e, hr.below hb hr.lt, hx⟩)
  | kq + 11, h => exact trivial
def ThtP (b : Nat) (wr : World) (s : Int × Int × Int × Tkr) (R2 : List Int) (t : Nat) (f : Nat → Value) (w : World) : Prop :=
  11 ≤ t ∧ t ≤ 14 ∧ Below b wr w ∧ ∃ A2 n2 c2 x8 x9, f 100 = .agg #[.slice A2 n2 c2, .int .i64 s.2.1, .int .i64 s.2.2.1] ∧ f 17 = .pointer (some ⟨x8, 0, none⟩) ∧ f 18 = .pointer (some ⟨x9, 0, none⟩) ∧ b ≤ x8 ∧ b ≤ x9 ∧
    OwnI w b (.slice A2 n2 c2) R2 ∧ R2.length = n2 ∧ n2 ≤ 1000 ∧ (t = 11 → RowV x8 27 [.slice none 0 0, .int .i64 0, .int .i64 0] w) ∧ (12 ≤ t → RowV x8 27 [.slice A2 n2 c2, .int .i64 s.2.1, .int .i64 s.2.2.1] w) ∧
    (t ≤ 12 → RowV x9 42 (cT (newTk false)) w) ∧ (13 ≤ t → RowV x9 42 (cT s.2.2.2) w) ∧ (t = 14 → f 19 = .int .i64 s.1)
set_option maxRecDepth 100000 in
set_option maxHeartbeats 16000000 in
theorem play_any (N : Nat) (hN : SizeOk N) (AL : Option Addr) (m cL : Nat) (Ks : List Int) (w : World) (hT : DTab w) (hm : Ks.length = m) (hm2 : m ≤ 200) (hL : Ints w w.heap.size AL Ks) :
    Calls Tryd.prog 7 #[.int .i64 N, .slice AL m cL] w (GotPlay N Ks w) := by
  have HT := Lib.hid hT
  have HLL := Lib.hid hL
  have HM := Lib.hid hm
  have e1 : newEd N = 0 := if_pos hN
  have e2 : newRd N = List.replicate N 0 := if_pos hN
  have HN := Lib.hid hN
  have CN := Lib.hid (dnew_any N (w.alloc (.cells #[.slice none 0 0, .int .i64 0, .int .i64 0] 27)) (hT.via (below_alloc _)))
  rw [e1, e2] at CN
  clear e1 e2 hT hL hm hN
  go_enter Tryd.func7, Tryd.ntmps7
  go_wp2_with fail
  refine CN.out.mono ?_
  rintro e w1 ⟨A1, n1, c1, rfl, ho, hb⟩
  have HB := Lib.hid ((below_alloc (w := w) (.cells #[.slice none 0 0, .int .i64 0, .int .i64 0] 27)).trans (hb.mono (by simp)))
  have HR := Lib.hid (RowV.below (RowV.new w 27 [.slice none 0 0, .int .i64 0, .int .i64 0]) hb (by simp))
  have HO : Hid (OwnQ w1 (w.heap.size + 1) A1 n1 c1 (List.replicate N 0)) := Lib.hid (by simpa using ho)
  clear ho hb CN
  go_upto_region 2 with fail
  obtain ⟨w2, hw2⟩ : ∃ w2, w2 = w1.alloc (.cells #[.slice A1 n1 c1, .int .i64 0, .int .i64 0] 27) := ⟨_, rfl⟩
  obtain ⟨gq, hgq⟩ : ∃ gq, gq = w1.heap.size := ⟨_, rfl⟩
  have HR2 : Hid (RowV w.heap.size 27 [.slice none 0 0, .int .i64 0, .int .i64 0] w2) := Lib.hid (by rw [hw2]; exact RowV.alloc HR.out _)
  have HQ2 : Hid (RowV gq 27 [.slice A1 n1 c1, .int .i64 0, .int .i64 0] w2) := Lib.hid (by rw [hw2, hgq]; exact RowV.new _ _ _)
  have HO2 : Hid (OwnI w2 (w.heap.size + 1) (.slice A1 n1 c1) (List.replicate N 0)) := Lib.hid (by rw [hw2]; exact HO.out.1.below (below_alloc _))
  have HB2 : Hid (Below w.heap.size w w2) := Lib.hid (by rw [hw2]; exact HB.out.trans ((below_alloc _).mono HB.out.size))
  have HG2 : Hid (w.heap.size < gq ∧ gq < w2.heap.size) := Lib.hid ⟨by have := HR.out.lt; omega, HQ2.out.lt⟩
  rw [← hw2, ← hgq]
  clear hw2 hgq HB HR HO
  have HN1 : Hid (n1 = N) := Lib.hid (by have := HO2.out.len_eq; simpa using this.symm)
  go_upto_region 3 with fail
  go_cut [12] from 20 (fun a wx => a = .pointer (some ⟨w2.heap.size + 1, 0, none⟩) ∧ StP w w.heap.size gq (w2.heap.size + 1) (.slice A1 n1 c1) (List.replicate N 0) 0 0 startT (.slice (some ⟨w2.heap.size, 0, none⟩) 0 0) [] wx)
  case first =>
    refine takers_region (by simp) rfl rfl rfl rfl rfl rfl rfl rfl rfl rfl rfl rfl rfl rfl rfl rfl rfl rfl rfl rfl rfl ?_
    simp [Act.put]
    go_wp2_with fail
    go_meet
    case rel =>
      refine ⟨rfl, ?_⟩
      have hbb := (below_alloc (w := w2) (.cells #[] 3)).trans ((below_alloc (w := w2.alloc (.cells #[] 3)) (.cells (arrC startT).toArray 50)).mono (by simp))
      have hta := RowV.new (w2.alloc (.cells #[] 3)) 50 (arrC startT)
      have hsz : (w2.alloc (.cells #[] 3)).heap.size = w2.heap.size + 1 := by simp
      rw [hsz] at hta
      have hgt := RowV.alloc (RowV.new w2 3 []) (.cells (arrC startT).toArray 50)
      exact ⟨HB2.out.trans (hbb.mono HB2.out.size), Nat.le_refl _, Nat.le_of_lt HG2.out.1, by have := HB2.out.size; omega, Nat.ne_of_lt HG2.out.1, RowV.alloc (RowV.alloc HR2.out _) _, RowV.alloc (RowV.alloc HQ2.out _) _, hta,
        (HO2.out.down (Nat.le_succ _)).below hbb, ⟨rfl, .inr ⟨w2.heap.size, 0, #[], rfl, HB2.out.size, hgt, Nat.le_refl _, Nat.zero_le _, rfl, rfl⟩⟩, fun k e1 e2 => by
          have h1 := (row_lts HO2.out k e1).2.1
          have h2 : w2.heap.size = k := by simpa [Value.ownBlock] using e2
          omega⟩
  case rest =>
    obtain ⟨rfl, hs3⟩ := hcut
    have HS3 := Lib.hid hs3
    clear hs3 HR2 HQ2 HO2 HB2 HG2
    obtain ⟨ga, hga⟩ : ∃ ga, ga = w2.heap.size + 1 := ⟨_, rfl⟩
    obtain ⟨g0, hg0⟩ : ∃ g0, g0 = w2.heap.size := ⟨_, rfl⟩
    rw [← hga, ← hg0] at HS3
    rw [← hga, ← hg0]
    obtain rfl := HN1.out
    clear hga hg0 HN1
    have PA0 := Lib.hid (PlayAt.start (show 1 ≤ n1 from by have := HN.out.bounds; omega) Ks)
    go_wp2_with fail
    go_loopg [10, 11, 13] (m + 32) (fun g l p i wr => ∃ (j P : Nat) (A : Option Addr) (c : Nat) (R : List Int) (T B : Int) (tk : Nat → Tkr) (F : Option Addr) (k d : Nat) (got : List Int), g + j = m + 32 ∧ l = .slice F k d ∧ p = .int .i64 P ∧ i = .int .i64 j ∧ Hid (PlayAt n1 Ks j P R T B tk got) ∧ Hid (StP w w.heap.size gq ga (.slice A n1 c) R T B tk (.slice F k d) got wr))
    case atStart => exact ⟨0, 0, A1, c1, List.replicate n1 0, 0, 0, startT, some ⟨g0, 0, none⟩, 0, 0, [], rfl, rfl, rfl, rfl, PA0, HS3⟩
    case round =>
      clear HS3 PA0
      obtain ⟨j, P, A, c, R, T, B, tk, F, k, d, got, hj, rfl, rfl, rfl, PA, SP⟩ := hrel
      by_cases hlt : j < m + 32
      · have d1 : decide (j < m + 32) = true := decide_eq_true hlt
        go_upto_if 51 with fail
        go_cut [14] from 36 to 127 (fun v wx => (∃ kk : Int, v = .int .i64 kk ∧ Hid (-1 ≤ kk ∧ kk < 4 ∧ (j < m → kOf (Ks.getD j 0) = kk) ∧ (m ≤ j → kk = ((j - m) % 4 : Nat)))) ∧ wx = wr)
        case first =>
          by_cases hjm : j < m
          · have d2 : decide (j < m) = true := decide_eq_true hjm
            obtain ⟨bb, off, K, hA0, hbb, hx, hcc⟩ := (HLL.out.below SP.out.bel).at_ (k := j) (by rw [HM.out]; exact hjm)
            subst hA0
            have HK : Hid (Ks.getD j 0 = K) := Lib.hid (by rw [List.getD_eq_getElem?_getD, hx]; rfl)
            clear hbb hx
            by_cases q1 : K < 0
            · have r1 : decide (K < 0) = true := decide_eq_true q1
              go_wp2_with fail
              go_meet
              case rel => exact ⟨⟨_, rfl, Lib.hid ⟨by omega, by omega, fun _ => by rw [HK.out]; unfold kOf; omega, fun h => absurd hjm (by omega)⟩⟩, rfl⟩
            · by_cases q2 : 4 < K
              · have r2 : decide (4 < K) = true := decide_eq_true q2
                go_wp2_with fail
                go_meet
                case rel => exact ⟨⟨_, rfl, Lib.hid ⟨by omega, by omega, fun _ => by rw [HK.out]; unfold kOf; omega, fun h => absurd hjm (by omega)⟩⟩, rfl⟩
              · have r2 : decide (4 < K) = false := decide_eq_false q2
                go_wp2_with fail
                go_meet
                case rel => exact ⟨⟨_, rfl, Lib.hid ⟨by omega, by omega, fun _ => by rw [HK.out]; unfold kOf; omega, fun h => absurd hjm (by omega)⟩⟩, rfl⟩
          · have d2 : decide (j < m) = false := decide_eq_false hjm
            have HTM : Hid (((j : Int) - m).tmod 4 = ((j - m) % 4 : Nat)) := Lib.hid (by
              rw [show (j : Int) - m = ((j - m : Nat) : Int) by omega]
              rfl)
            go_wp2_with fail
            go_meet
            case rel => exact ⟨⟨_, rfl, Lib.hid ⟨by rw [HTM.out]; omega, by rw [HTM.out]; omega, fun h => absurd h hjm, fun _ => HTM.out⟩⟩, rfl⟩
        case rest =>
          obtain ⟨⟨kk, rfl, HKK⟩, rfl⟩ := hcut
          by_cases hneg : kk < 0
          · have d3 : decide (kk < 0) = true := decide_eq_true hneg
            have hjm : j < m := by
              have := HKK.out.2.2.2
              by_cases h : j < m
              · exact h
              · have := this (by omega); omega
            have hjk : j < Ks.length := by rw [HM.out]; exact hjm
            have t0 := SP.out.ta.cell (arrC_at tk (k := 0) (i := 1) (by decide) rfl)
            simp at t0
            by_cases hat : (tk 0).at_ = 0
            · have d4 : ((tk 0).at_ == 0) = true := by simp [hat]
              have hn1000 : n1 ≤ 1000 := by have := HN.out.bounds; omega
              have CP := Lib.hid (dpush_any T B ((P : Int) + 1) wc (SP.out.isQ PA.out.inv.len hn1000) (HT.out.via SP.out.bel))
              have c0 := SP.out.q.cell (j := 0) rfl
              have c1 := SP.out.q.cell (j := 1) rfl
              have c2 := SP.out.q.cell (j := 2) rfl
              have hPm := PA.out.pm
              rw [HM.out] at hPm
              have PO := PA.out.inv.pushOk HN.out (by omega) hat
              obtain ⟨z, hz⟩ : ∃ z, z = pushE R.length T B := ⟨_, rfl⟩
              obtain ⟨T5, hT5⟩ : ∃ z, z = pushT R.length T B := ⟨_, rfl⟩
              obtain ⟨B5, hB5⟩ : ∃ z, z = pushB R.length T B := ⟨_, rfl⟩
              obtain ⟨R5, hR5⟩ : ∃ z, z = pushR R T B ((P : Int) + 1) := ⟨_, rfl⟩
              unfold GotPush at CP
              rw [← hz, ← hT5, ← hB5, ← hR5] at CP
              have HZ := Lib.hid hz
              have HT5 := Lib.hid hT5
              have HB5 := Lib.hid hB5
              have HR5 := Lib.hid hR5
              have HPO := Lib.hid PO
              clear hz hT5 hB5 hR5 PO
              go_wp2_with fail
              refine CP.out.mono ?_
              rintro e v3 ⟨A5, n5, c5, rfl, ho, hb⟩
              have HO5 := Lib.hid ho
              have HV3 := Lib.hid hb
              clear ho hb CP c0 c1 c2 t0
              go_upto_region 15 with fail
              obtain ⟨w5, hw5⟩ : ∃ w5, w5 = v3.alloc (.cells #[.slice A5 n5 c5, .int .i64 T5, .int .i64 B5] 27) := ⟨_, rfl⟩
              obtain ⟨g5, hg5⟩ : ∃ g5, g5 = v3.heap.size := ⟨_, rfl⟩
              have hbb : Below wc.heap.size wc w5 := by rw [hw5]; exact HV3.out.trans ((below_alloc _).mono HV3.out.size)
              have SP5 := Lib.hid (SP.out.next hbb)
              have X5 : Hid (RowV g5 27 [.slice A5 n5 c5, .int .i64 T5, .int .i64 B5] w5) := Lib.hid (by rw [hw5, hg5]; exact RowV.new _ _ _)
              have HQ5 : Hid (OwnI w5 wc.heap.size (.slice A5 n5 c5) R5) := Lib.hid (by rw [hw5]; exact HO5.out.1.below (below_alloc _))
              have HN5 := Lib.hid HO5.out.2.1
              have HFR := Lib.hid (SP.out.fresh HQ5.out (Nat.le_refl _))
              have HSZ := Lib.hid SP.out.size
              rw [← hw5, ← hg5]
              clear hw5 hg5 hbb HV3 HO5 SP
              by_cases hbt : B - T < n1
              · have hz0 : z = 0 := by rw [HZ.out, HPO.out, if_pos hbt]
                have hp0 : pushE R.length T B = 0 := by rw [← HZ.out]; exact hz0
                have hlo := PA.out.inv.lo
                unfold virD at hlo
                rw [if_pos hat] at hlo
                have htp := PA.out.inv.top
                have f1 : T5 = T := by rw [HT5.out]; exact if_pos hp0
                have f2 : B5 = B + 1 := by rw [HB5.out]; exact if_pos hp0
                have f3 : R5 = R.set (B.toNat % R.length) ((P : Int) + 1) := by
                  rw [HR5.out]
                  unfold pushR plN
                  rw [if_pos hp0, if_neg (show ¬ B < 0 by omega)]
                have f4 : n5 = n1 := by rw [← HN5.out, f3, List.length_set]; exact PA.out.inv.len
                have PA5 := Lib.hid (PA.out.push hjk hat hbt)
                rw [← f3] at PA5
                have SQ := Lib.hid (SP5.out.putQ T5 B5 (HQ5.out.down HSZ.out) HFR.out)
                have x0 := X5.out.cell (j := 0) rfl
                have x1 := X5.out.cell (j := 1) rfl
                have x2 := X5.out.cell (j := 2) rfl
                have q0 := SP5.out.q.cell (j := 0) rfl
                have q1 := SP5.out.q.cell (j := 1) rfl
                have q2 := SP5.out.q.cell (j := 2) rfl
                have y0 := SP5.out.q.frozen 0
                have y1 := SP5.out.q.frozen 1
                have y2 := SP5.out.q.frozen 2
                clear HZ HPO HT5 HB5 HR5 hp0 hlo htp f3 HN5
                subst hz0
                subst f1
                subst f2
                subst f4
                go_wp2_with fail
                go_roundg (m + 32 - (j + 1))
                case measure => omega
                case rel => exact ⟨j + 1, P + 1, A5, c5, R5, _, _, tk, F, k, d, got, by omega, rfl, by simp, by simp, PA5, SQ⟩
              · have hz0 : z = 121 := by rw [HZ.out, HPO.out, if_neg hbt]
                clear HZ HPO HT5 HB5 HR5 HQ5 X5 HFR
                subst hz0
                go_wp2_with fail
                go_roundg (m + 32 - (j + 1))
                case measure => omega
                case rel => exact ⟨j + 1, P, A, c, R, T, B, tk, F, k, d, got, by omega, rfl, rfl, by simp, Lib.hid (PA.out.on hjk), SP5⟩
            · have d4 : ((tk 0).at_ == 0) = false := by simp [hat]
              go_wp2_with fail
              go_roundg (m + 32 - (j + 1))
              case measure => omega
              case rel => exact ⟨j + 1, P, A, c, R, T, B, tk, F, k, d, got, by omega, rfl, rfl, by simp, Lib.hid (PA.out.on hjk), SP⟩
          · have d3 : decide (kk < 0) = false := decide_eq_false hneg
            obtain ⟨kn, rfl⟩ : ∃ kn : Nat, kk = kn := ⟨kk.toNat, by omega⟩
            have hk4 : kn < 4 := by have := HKK.out.2.1; omega
            have HK4 := Lib.hid hk4
            have HN1000 : Hid (n1 ≤ 1000) := Lib.hid (by have := HN.out.bounds; omega)
            have hk6 : kn * 6 = 6 * kn := Nat.mul_comm _ _
            go_upto_region 20 with fail
            go_cut [93] from 36 to 127 (fun v wx => v = .bool (decide (m ≤ j) && ((tk kn).at_ == 0)) ∧ wx = wc)
            case first =>
              have t1 := SP.out.ta.cell (arrC_at tk (k := kn) (i := 1) hk4 rfl)
              by_cases hjm : m ≤ j
              · have d5 : decide (m ≤ j) = true := decide_eq_true hjm
                go_wp2_with fail
                go_meet
                case rel => exact ⟨by simp [hjm], rfl⟩
              · have d5 : decide (m ≤ j) = false := decide_eq_false hjm
                go_wp2_with fail
                go_meet
                case rel => exact ⟨by simp [hjm], rfl⟩
            case rest =>
              obtain ⟨rfl, rfl⟩ := hcut
              by_cases hrest : m ≤ j ∧ (tk kn).at_ = 0
              · have d5 : decide (m ≤ j) = true := decide_eq_true hrest.1
                have d6 : ((tk kn).at_ == 0) = true := by simp [hrest.2]
                rw [d5, d6]
                go_wp2_with fail
                go_roundg (m + 32 - (j + 1))
                case measure => omega
                case rel => exact ⟨j + 1, P, A, c, R, T, B, tk, F, k, d, got, by omega, rfl, rfl, by simp, Lib.hid (PA.out.rest (by rw [HM.out]; exact hrest.1) (by
                  rw [HM.out]
                  have := HKK.out.2.2.2 hrest.1
                  rw [show kn = (j - m) % 4 by omega] at hrest
                  exact hrest.2)), SP⟩
              · have d7 : (decide (m ≤ j) && ((tk kn).at_ == 0)) = false := by
                  cases h1 : (decide (m ≤ j) && ((tk kn).at_ == 0)) with
                  | false => rfl
                  | true => simp at h1; exact absurd h1 hrest
                have HREST := Lib.hid hrest
                rw [d7]
                clear hrest d7
                obtain ⟨s, hs⟩ : ∃ s, s = stepQ R T B (tk kn) := ⟨_, rfl⟩
                obtain ⟨R2, hR2⟩ : ∃ R2, R2 = if s.1 = 0 then R else [] := ⟨_, rfl⟩
                have HS := Lib.hid hs
                have HR2 := Lib.hid hR2
                clear hs hR2
                go_upto_region 21 with fail
                refine wp_region_tail 11 [95, 96, 97, 98, 99, 94, 100, 101, 102, 17, 18, 1000, 1001, 19] [7, 8] (by kernel_rfl) (by kernel_rfl) (by intro d hd; simp at hd ⊢; omega) (fun z => StP w w.heap.size gq ga (.slice A n1 c) R T B tk (.slice F k d) got z ∧ Below wc.heap.size wc z) (PhiP wc.heap.size s R2 A n1 c T B kn ga (tk kn)) (fun q v => v = if q = 7 then vT s.2.2.2 else .int .i64 s.1) (ThtP wc.heap.size wc s R2)
                  (fun z z' h hb => ⟨h.1.next hb, h.2.trans (hb.mono h.2.size)⟩) phiP_below (⟨SP.out.next (Below.refl _ _).drew, (Below.refl _ _).drew⟩) ?hstep ?hloose ?hmid ?htail ?hcon ?hend
                case hstep =>
                  intro kq o hkm hkF ho a1 w hI hA hd K hK
                  obtain ⟨ρ, hρ⟩ : ∃ ρ, a1.eval = ρ := ⟨_, rfl⟩
                  rw [hρ] at hA hd
                  match kq, hkm, hkF, ho with
                  | 0, _, _, ho =>
                    have hoo := Option.some.inj ho
                    subst hoo
                    have h0 := hI.1.q.cell (j := 0) rfl
                    have h1 := hI.1.q.cell (j := 1) rfl
                    have h2 := hI.1.q.cell (j := 2) rfl
                    have hs := hA.tmp 8 (by decide)
                    exact fx_val hK hρ (.agg #[.slice A n1 c, .int .i64 T, .int .i64 B]) (by simp [execOp, hs, h0, h1, h2, go_sem]) rfl
                  | 1, _, _, ho =>
                    have hoo := Option.some.inj ho
                    subst hoo
                    exact fx_val hK hρ (.int .i64 kn) (by have h := hA.tmp 14 (by decide); simp [execOp, h, go_sem]) rfl
                  | 2, _, _, ho =>
                    have hoo := Option.some.inj ho
                    subst hoo
                    have f1 : ρ (.tmp 96) = .int .i64 kn := hd ⟨1, .data⟩ (by simp) (by rfl) (by decide)
                    have hs := hA.tmp 12 (by decide)
                    have h4 : ¬ ((4 : Int) ≤ (kn : Int)) := by omega
                    exact fx_val hK hρ (.pointer (some ⟨ga, 6 * kn, none⟩)) (by simp [execOp, hs, f1, hk4, hk6, h4, go_sem]) rfl
                  | 3, _, _, ho =>
                    have hoo := Option.some.inj ho
                    subst hoo
                    have f2 : ρ (.tmp 97) = .pointer (some ⟨ga, 6 * kn, none⟩) := hd ⟨2, .data⟩ (by simp) (by rfl) (by decide)
                    have h0 := hI.1.ta.cell (arrC_at tk (k := kn) (i := 0) hk4 rfl)
                    have h1 := hI.1.ta.cell (arrC_at tk (k := kn) (i := 1) hk4 rfl)
                    have h2 := hI.1.ta.cell (arrC_at tk (k := kn) (i := 2) hk4 rfl)
                    have h3 := hI.1.ta.cell (arrC_at tk (k := kn) (i := 3) hk4 rfl)
                    have h4 := hI.1.ta.cell (arrC_at tk (k := kn) (i := 4) hk4 rfl)
                    have h5 := hI.1.ta.cell (arrC_at tk (k := kn) (i := 5) hk4 rfl)
                    simp only [Nat.add_zero] at h0
                    exact fx_val hK hρ (vT (tk kn)) (by simp [execOp, f2, h0, h1, h2, h3, h4, h5, vT, go_sem]) rfl
                  | 4, _, _, ho =>
                    have hoo := Option.some.inj ho
                    subst hoo
                    have f0 : ρ (.tmp 95) = .agg #[.slice A n1 c, .int .i64 T, .int .i64 B] := hd ⟨0, .data⟩ (by simp) (by rfl) (by decide)
                    have f3 : ρ (.tmp 98) = vT (tk kn) := hd ⟨3, .data⟩ (by simp) (by rfl) (by decide)
                    unfold vT at f3
                    exact fx_call hK hρ 14 _ _ #[.agg #[.slice A n1 c, .int .i64 T, .int .i64 B], vT (tk kn)] rfl (by simp only [List.map_toArray, List.map_cons, List.map_nil, hA.const, f0, f3]; rfl) (eg_of Tryd.func14 (by kernel_rfl) rfl) ((dstep_any T B (tk kn) w (hI.1.isQ PA.out.inv.len HN1000.out) (HT.out.via hI.1.bel)).mono fun e w' hg => (by
                      obtain ⟨A2, n2, c2, he, ho, hn2, hl2, hb⟩ := hg
                      rw [← HS.out] at he ho hn2
                      rw [← HR2.out] at ho hn2
                      exact ⟨_, he, ⟨A2, n2, c2, rfl, OwnI.down ho hI.2.size, hn2, hl2⟩, hb⟩))
                  | 5, _, _, ho =>
                    have hoo := Option.some.inj ho
                    subst hoo
                    have f4 : ∃ A2 n2 c2, (ρ (.tmp 99)) = .tuple #[.agg #[.slice A2 n2 c2, .int .i64 s.2.1, .int .i64 s.2.2.1], vT s.2.2.2, .int .i64 s.1] ∧ OwnI w wc.heap.size (.slice A2 n2 c2) R2 ∧ R2.length = n2 ∧ n2 ≤ 1000 := hd ⟨4, .data⟩ (by simp) (by rfl) (by decide)
                    obtain ⟨A2, n2, c2, e3, q⟩ := f4
                    exact fx_val hK hρ _ (by simp [execOp, e3, go_sem]) ⟨A2, n2, c2, rfl, q⟩
                  | 6, _, _, ho =>
                    have hoo := Option.some.inj ho
                    subst hoo
                    have f5 : ∃ A2 n2 c2, (ρ (.tmp 94)) = .tuple #[.agg #[.slice A2 n2 c2, .int .i64 s.2.1, .int .i64 s.2.2.1], vT s.2.2.2, .int .i64 s.1] ∧ OwnI w wc.heap.size (.slice A2 n2 c2) R2 ∧ R2.length = n2 ∧ n2 ≤ 1000 := hd ⟨5, .data⟩ (by simp) (by rfl) (by decide)
                    obtain ⟨A2, n2, c2, e3, q⟩ := f5
                    exact fx_val hK hρ (.agg #[.slice A2 n2 c2, .int .i64 s.2.1, .int .i64 s.2.2.1]) (by simp [execOp, e3, go_sem]) ⟨A2, n2, c2, rfl, q⟩
                  | 7, _, hkF, _ => exact absurd (by decide) hkF
                  | 8, _, hkF, _ => exact absurd (by decide) hkF
                  | 9, _, _, ho =>
                    have hoo := Option.some.inj ho
                    subst hoo
                    exact fx_make hK hρ (.pointer (some ⟨w.heap.size, 0, none⟩)) (w.alloc (.cells #[.slice none 0 0, .int .i64 0, .int .i64 0] 27)) (by simp [execOp, go_sem]) ⟨w.heap.size, rfl, RowV.new w _ [.slice none 0 0, .int .i64 0, .int .i64 0], hI.2.size⟩ (below_alloc _)
                  | 10, _, _, ho =>
                    have hoo := Option.some.inj ho
                    subst hoo
                    exact fx_make hK hρ (.pointer (some ⟨w.heap.size, 0, none⟩)) (w.alloc (.cells #[.bool false, .int .i64 0, .int .i64 0, .int .i64 0, .int .i64 0, .int .i64 0] 42)) (by simp [execOp, go_sem]) ⟨w.heap.size, rfl, RowV.new w _ (cT (newTk false)), hI.2.size⟩ (below_alloc _)
                  | kq + 11, h, _, _ => exact absurd h (by omega)
                case hloose =>
                  intro kq o hkF ho ρ w hA hd
                  simp only [List.mem_cons, List.not_mem_nil, or_false] at hkF
                  rcases hkF with rfl | rfl
                  · have hoo := Option.some.inj ho
                    subst hoo
                    obtain ⟨w1, A2, n2, c2, e3, _⟩ := hd ⟨5, .data⟩ (by simp) (by rfl) (by decide)
                    have e4 : ρ (.tmp 94) = _ := e3
                    exact ⟨vT s.2.2.2, by simp [execOp, e4, go_sem], rfl⟩
                  · have hoo := Option.some.inj ho
                    subst hoo
                    obtain ⟨w1, A2, n2, c2, e3, _⟩ := hd ⟨5, .data⟩ (by simp) (by rfl) (by decide)
                    have e4 : ρ (.tmp 94) = _ := e3
                    exact ⟨.int .i64 s.1, by simp [execOp, e4, go_sem], rfl⟩
                case hmid =>
                  intro vals w hI hF
                  obtain ⟨A2, n2, c2, e5, ho, hn, hl⟩ := hF 6 (by decide) (by decide)
                  obtain ⟨x8, e8, r8, b8⟩ := hF 9 (by decide) (by decide)
                  obtain ⟨x9, e9, r9, b9⟩ := hF 10 (by decide) (by decide)
                  exact ⟨Nat.le_refl _, by omega, hI.2, A2, n2, c2, x8, x9, e5, e8, e9, b8, b9, ho, hn, hl, fun _ => r8, fun h => absurd h (by decide), fun _ => r9, fun h => absurd h (by decide), fun h => absurd h (by decide)⟩
                case htail =>
                  intro t o htm ho a1 w hA hT hL K hK
                  have htl : t < 14 := (Array.getElem?_eq_some_iff.1 ho).1
                  obtain ⟨ρ, hρ⟩ : ∃ ρ, a1.eval = ρ := ⟨_, rfl⟩
                  rw [hρ] at hA
                  try rw [hρ] at hL
                  obtain rfl | rfl | rfl : t = 11 ∨ t = 12 ∨ t = 13 := by omega
                  · have hoo := Option.some.inj ho
                    subst hoo
                    obtain ⟨t1, t2, hbl, A2, n2, c2, x8, x9, e5, e8, e9, b8, b9, ho, hn, hl, r8, r8b, r9, r9b, e12⟩ := hT
                    simp only [hρ] at e5 e8 e9 e12
                    have hr := r8 rfl
                    have q0 := hr.cell (j := 0) rfl
                    have q1 := hr.cell (j := 1) rfl
                    have q2 := hr.cell (j := 2) rfl
                    have z0 := hr.frozen 0
                    have z1 := hr.frozen 1
                    have z2 := hr.frozen 2
                    have hne : x9 ≠ x8 := fun e => by have := r9 (by decide); rw [e] at this; exact rowV_types hr this (by decide)
                    unfold Oper.wp
                    rw [show (execOp a1.eval _).run Tryd.prog w = .ok .skip (((w.setCell ⟨x8, 0, none⟩ (.slice A2 n2 c2)).setCell ⟨x8, 1, none⟩ (.int .i64 s.2.1)).setCell ⟨x8, 2, none⟩ (.int .i64 s.2.2.1)) from by rw [hρ]; simp [execOp, e8, e5, q0, q1, q2, z0, z1, z2, go_sem], Oper.upon_skip]
                    refine hK undef _ ⟨by decide, by decide, ((hbl.setCell b8 _).setCell b8 _).setCell b8 _, A2, n2, c2, x8, x9, ?_⟩
                    simp only [reduceCtorEq, if_false, hρ]
                    exact ⟨e5, e8, e9, b8, b9, own_store3 ho hr (by decide), hn, hl, fun h => absurd h (by decide), fun _ => ((hr.set 0 _).set 1 _).set 2 _, fun _ => (((r9 (by decide)).far hne).far hne).far hne, fun h => absurd h (by decide), fun h => absurd h (by decide)⟩
                  · have hoo := Option.some.inj ho
                    subst hoo
                    obtain ⟨t1, t2, hbl, A2, n2, c2, x8, x9, e5, e8, e9, b8, b9, ho, hn, hl, r8, r8b, r9, r9b, e12⟩ := hT
                    simp only [hρ] at e5 e8 e9 e12
                    have hr := r9 (by decide)
                    have q0 := hr.cell (j := 0) rfl
                    have q1 := hr.cell (j := 1) rfl
                    have q2 := hr.cell (j := 2) rfl
                    have q3 := hr.cell (j := 3) rfl
                    have q4 := hr.cell (j := 4) rfl
                    have q5 := hr.cell (j := 5) rfl
                    have z0 := hr.frozen 0
                    have z1 := hr.frozen 1
                    have z2 := hr.frozen 2
                    have z3 := hr.frozen 3
                    have z4 := hr.frozen 4
                    have z5 := hr.frozen 5
                    have h8 := r8b (by decide)
                    have hne : x8 ≠ x9 := fun e => by rw [e] at h8; exact rowV_types h8 hr (by decide)
                    have hl1 : ρ (.tmp 101) = vT s.2.2.2 := hL ⟨7, .data⟩ (by simp) (by rfl) (by decide)
                    unfold vT at hl1
                    unfold Oper.wp
                    rw [show (execOp a1.eval _).run Tryd.prog w = .ok .skip ((((((w.setCell ⟨x9, 0, none⟩ (.bool s.2.2.2.steal)).setCell ⟨x9, 1, none⟩ (.int .i64 s.2.2.2.at_)).setCell ⟨x9, 2, none⟩ (.int .i64 s.2.2.2.top)).setCell ⟨x9, 3, none⟩ (.int .i64 s.2.2.2.bot)).setCell ⟨x9, 4, none⟩ (.int .i64 s.2.2.2.got)).setCell ⟨x9, 5, none⟩ (.int .i64 s.2.2.2.end_)) from by rw [hρ]; simp [execOp, e9, hl1, q0, q1, q2, q3, q4, q5, z0, z1, z2, z3, z4, z5, go_sem], Oper.upon_skip]
                    refine hK undef _ ⟨by decide, by decide, (((((hbl.setCell b9 _).setCell b9 _).setCell b9 _).setCell b9 _).setCell b9 _).setCell b9 _, A2, n2, c2, x8, x9, ?_⟩
                    simp only [reduceCtorEq, if_false, hρ]
                    exact ⟨e5, e8, e9, b8, b9, own_store6 ho hr (by decide), hn, hl, fun h => absurd h (by decide), fun _ => (((((h8.far hne).far hne).far hne).far hne).far hne).far hne, fun h => absurd h (by decide), fun _ => (((((hr.set 0 _).set 1 _).set 2 _).set 3 _).set 4 _).set 5 _, fun h => absurd h (by decide)⟩
                  · have hoo := Option.some.inj ho
                    subst hoo
                    obtain ⟨t1, t2, hbl, A2, n2, c2, x8, x9, e5, e8, e9, b8, b9, ho, hn, hl, r8, r8b, r9, r9b, e12⟩ := hT
                    simp only [hρ] at e5 e8 e9 e12
                    have hl2 : ρ (.tmp 102) = .int .i64 s.1 := hL ⟨8, .data⟩ (by simp) (by rfl) (by decide)
                    unfold Oper.wp
                    rw [show (execOp a1.eval _).run Tryd.prog w = .ok (.value (.int .i64 s.1)) (w) from by rw [hρ]; simp [execOp, hl2, go_sem], Oper.upon_value]
                    refine hK _ _ ⟨by decide, by decide, hbl, A2, n2, c2, x8, x9, ?_⟩
                    simp only [Option.some.injEq, Nat.reduceEqDiff, if_false, if_true, hρ]
                    exact ⟨e5, e8, e9, b8, b9, ho, hn, hl, fun h => absurd h (by decide), fun _ => r8b (by decide), fun h => absurd h (by decide), fun _ => r9b (by decide), fun _ => rfl⟩
                case hcon =>
                  intro t f g w h hT
                  obtain ⟨t1, t2, hbl, A2, n2, c2, x8, x9, e5, e8, e9, b8, b9, ho, hn, hl, r8, r8b, r9, r9b, e12⟩ := hT
                  have q5 := h 6 (by omega) (by simp)
                  have q8 := h 9 (by omega) (by simp)
                  have q9 := h 10 (by omega) (by simp)
                  simp only [List.getD_cons_zero, List.getD_cons_succ] at q5 q8 q9
                  refine ⟨t1, t2, hbl, A2, n2, c2, x8, x9, q5 ▸ e5, q8 ▸ e8, q9 ▸ e9, b8, b9, ho, hn, hl, r8, r8b, r9, r9b, fun e => ?_⟩
                  have q12 := h 13 (by omega) (by simp)
                  simp only [List.getD_cons_zero, List.getD_cons_succ] at q12
                  exact q12 ▸ e12 e
                case hend =>
                  intro vals w3 hT
                  obtain ⟨_, _, hbl, A2, n2, c2, x8, x9, e5, e8, e9, b8, b9, ho, hn2, hl2, _, r8, _, r9, e12⟩ := hT
                  have X8 := Lib.hid (r8 (by decide))
                  have X9 := Lib.hid (r9 (by decide))
                  have HO := Lib.hid ho
                  have HN2 := Lib.hid hn2
                  have SP3 := Lib.hid (SP.out.next hbl)
                  have HAP := Lib.hid (SP.out.fresh ho (Nat.le_refl _))
                  have HSZ := Lib.hid SP.out.size
                  have q12 := e12 rfl
                  clear r8 r9 ho hbl e12 hn2 hl2 b8 b9 SP
                  simp only [fillA, fillL, List.contains_cons, List.contains_nil, Nat.reduceBEq, Bool.or_false, Bool.false_or, Bool.or_true, Bool.true_or, cond_true, cond_false, Nat.zero_add, Nat.reduceAdd]
                  rw [e8, e9, q12]
                  clear e5 e8 e9 q12
                  have hmv := PA.out.inv.stepOk HN.out (by have := PA.out.pm; have := HM.out; omega) hk4
                  have HS0 : Hid (s = (0, moveD R T B (tk kn))) := Lib.hid (HS.out.trans hmv)
                  obtain ⟨z, T', B', t'⟩ := s
                  have z0 : z = 0 := congrArg (fun q => q.1) HS0.out
                  have z1 : T' = (moveD R T B (tk kn)).1 := congrArg (fun q => q.2.1) HS0.out
                  have z2 : B' = (moveD R T B (tk kn)).2.1 := congrArg (fun q => q.2.2.1) HS0.out
                  have z3 : t' = (moveD R T B (tk kn)).2.2 := congrArg (fun q => q.2.2.2) HS0.out
                  subst z0
                  dsimp only at X8 X9
                  have hR : R2 = R := by rw [HR2.out]; rfl
                  subst hR
                  have PA2 := PA.out.step (k := kn) hk4 (fun h => by
                    have := HKK.out.2.2.1 (by rw [← HM.out]; exact h)
                    exact this) (fun h => by
                    rw [HM.out] at h ⊢
                    have := HKK.out.2.2.2 h
                    exact ⟨by omega, fun ha => HREST.out ⟨h, ha⟩⟩)
                  have hgl := PA.out.gl
                  rw [← z1, ← z2, ← z3] at PA2
                  have HPA2 := Lib.hid PA2
                  clear PA2 hmv HS0 HS HR2 z1 z2 z3 PA HKK HREST
                  obtain ⟨st, at', tp, bt, gt, en⟩ := t'
                  unfold cT at X9
                  have x0 := X8.out.cell (j := 0) rfl
                  have x1 := X8.out.cell (j := 1) rfl
                  have x2 := X8.out.cell (j := 2) rfl
                  have q0 := SP3.out.q.cell (j := 0) rfl
                  have q1 := SP3.out.q.cell (j := 1) rfl
                  have q2 := SP3.out.q.cell (j := 2) rfl
                  have y0 := SP3.out.q.frozen 0
                  have y1 := SP3.out.q.frozen 1
                  have y2 := SP3.out.q.frozen 2
                  go_upto_region 25 with fail
                  have hn2e : n2 = n1 := by rw [← HN2.out]; exact HPA2.out.inv.len
                  subst hn2e
                  have hke : got.length = k := SP3.out.list.len_eq
                  subst hke
                  obtain ⟨w4, hw4⟩ : ∃ w4, w4 = ((w3.setCell ⟨gq, 0, none⟩ (.slice A2 n2 c2)).setCell ⟨gq, 1, none⟩ (.int .i64 T')).setCell ⟨gq, 2, none⟩ (.int .i64 B') := ⟨_, rfl⟩
                  have SQ := Lib.hid (SP3.out.putQ T' B' (HO.out.down HSZ.out) HAP.out)
                  have hnq : x9 ≠ gq := fun e => rowV_types (e ▸ X9.out) SP3.out.q (by decide)
                  have X94 := Lib.hid (((X9.out.far (v := .slice A2 n2 c2) (j := 0) hnq).far (v := .int .i64 T') (j := 1) hnq).far (v := .int .i64 B') (j := 2) hnq)
                  rw [← hw4] at SQ X94 ⊢
                  clear hw4 hnq x0 x1 x2 q0 q1 q2 y0 y1 y2 SP3 X8 X9 HO HN2 HAP HSZ
                  have h4 : ¬ ((4 : Int) ≤ (kn : Int)) := by omega
                  have z0 := X94.out.cell (j := 0) rfl
                  have y0 := SQ.out.ta.cell (arrC_at tk (k := kn) (i := 0) hk4 rfl)
                  have v0 := SQ.out.ta.frozen (6 * kn + 0)
                  have z1 := X94.out.cell (j := 1) rfl
                  have y1 := SQ.out.ta.cell (arrC_at tk (k := kn) (i := 1) hk4 rfl)
                  have v1 := SQ.out.ta.frozen (6 * kn + 1)
                  have z2 := X94.out.cell (j := 2) rfl
                  have y2 := SQ.out.ta.cell (arrC_at tk (k := kn) (i := 2) hk4 rfl)
                  have v2 := SQ.out.ta.frozen (6 * kn + 2)
                  have z3 := X94.out.cell (j := 3) rfl
                  have y3 := SQ.out.ta.cell (arrC_at tk (k := kn) (i := 3) hk4 rfl)
                  have v3 := SQ.out.ta.frozen (6 * kn + 3)
                  have z4 := X94.out.cell (j := 4) rfl
                  have y4 := SQ.out.ta.cell (arrC_at tk (k := kn) (i := 4) hk4 rfl)
                  have v4 := SQ.out.ta.frozen (6 * kn + 4)
                  have z5 := X94.out.cell (j := 5) rfl
                  have y5 := SQ.out.ta.cell (arrC_at tk (k := kn) (i := 5) hk4 rfl)
                  have v5 := SQ.out.ta.frozen (6 * kn + 5)
                  simp only [Nat.add_zero] at y0 v0
                  go_upto_region 26 with fail
                  obtain ⟨w5, hw5⟩ : ∃ w5, w5 = (((((w4.setCell ⟨ga, 6 * kn, none⟩ (.bool st)).setCell ⟨ga, 6 * kn + 1, none⟩ (.int .i64 at')).setCell ⟨ga, 6 * kn + 2, none⟩ (.int .i64 tp)).setCell ⟨ga, 6 * kn + 3, none⟩ (.int .i64 bt)).setCell ⟨ga, 6 * kn + 4, none⟩ (.int .i64 gt)).setCell ⟨ga, 6 * kn + 5, none⟩ (.int .i64 en) := ⟨_, rfl⟩
                  have S5 := Lib.hid (SQ.out.putT hk4 ⟨st, at', tp, bt, gt, en⟩)
                  have hna : x9 ≠ ga := fun e => rowV_types (e ▸ X94.out) SQ.out.ta (by decide)
                  have X95 : Hid (RowV x9 42 [.bool st, .int .i64 at', .int .i64 tp, .int .i64 bt, .int .i64 gt, .int .i64 en] w5) := Lib.hid (by rw [hw5]; exact (((((X94.out.far hna).far hna).far hna).far hna).far hna).far hna)
                  dsimp only at S5
                  rw [← hw5] at S5 ⊢
                  clear hw5 hna z0 y0 v0 z1 y1 v1 z2 y2 v2 z3 y3 v3 z4 y4 v4 z5 y5 v5 X94 SQ
                  have z0 := X95.out.cell (j := 0) rfl
                  have z1 := X95.out.cell (j := 1) rfl
                  have z2 := X95.out.cell (j := 2) rfl
                  have z3 := X95.out.cell (j := 3) rfl
                  have z4 := X95.out.cell (j := 4) rfl
                  have z5 := X95.out.cell (j := 5) rfl
                  by_cases hen1 : en = 1
                  · have d8 : (en == 1) = true := by simp [hen1]
                    have d9 : (en != 0) = true := by simp [hen1]
                    have hlist := S5.out.list
                    have hsz := S5.out.size
                    have hk1000 : got.length ≤ 1000 := by omega
                    have hng : nextG got ⟨st, at', tp, bt, gt, en⟩ = got ++ [gt] := if_pos hen1
                    have hnt : nextT ⟨st, at', tp, bt, gt, en⟩ = newTk st := if_neg (by show ¬ en = 0; omega)
                    rw [hng, hnt] at HPA2
                    have LI := Lib.hid hlist
                    clear hlist hng hnt
                    go_upto_region 27 with fail
                    go_wp2_with (at_builtin; refine wpList_pushXs rfl _ _ 3 25 1 8 (.int .i64 0) Tryd.underlying25 int_cell_info rfl (by omega) (by omega) rfl rfl w5 w.heap.size got.length _ (got.map (Value.int .i64)) [.int .i64 gt] LI.out rfl (by simp [Value.oneCell']) hk1000 hsz (by first | rfl | simp [Act.eval]) (by first | rfl | simp [Act.eval]) ?_; intro F6 d6 w6 ho6 hr6 hat6; (have S6 := Lib.hid (S5.out.push (ownI_snoc ho6) hr6 hat6)); (have X96 := Lib.hid (rowV_taker X95.out hr6)); clear ho6 hr6 hat6 z0 z1 z2 z3 z4 z5 X95 S5 LI; (have z0 := X96.out.cell (j := 0) rfl); (have y0 := S6.out.ta.cell (arrC_at _ (k := kn) (i := 0) hk4 (by rw [setT_at]; rfl))); (have v0 := S6.out.ta.frozen (6 * kn + 0)); (have z1 := X96.out.cell (j := 1) rfl); (have y1 := S6.out.ta.cell (arrC_at _ (k := kn) (i := 1) hk4 (by rw [setT_at]; rfl))); (have v1 := S6.out.ta.frozen (6 * kn + 1)); (have z2 := X96.out.cell (j := 2) rfl); (have y2 := S6.out.ta.cell (arrC_at _ (k := kn) (i := 2) hk4 (by rw [setT_at]; rfl))); (have v2 := S6.out.ta.frozen (6 * kn + 2)); (have z3 := X96.out.cell (j := 3) rfl); (have y3 := S6.out.ta.cell (arrC_at _ (k := kn) (i := 3) hk4 (by rw [setT_at]; rfl))); (have v3 := S6.out.ta.frozen (6 * kn + 3)); (have z4 := X96.out.cell (j := 4) rfl); (have y4 := S6.out.ta.cell (arrC_at _ (k := kn) (i := 4) hk4 (by rw [setT_at]; rfl))); (have v4 := S6.out.ta.frozen (6 * kn + 4)); (have z5 := X96.out.cell (j := 5) rfl); (have y5 := S6.out.ta.cell (arrC_at _ (k := kn) (i := 5) hk4 (by rw [setT_at]; rfl))); (have v5 := S6.out.ta.frozen (6 * kn + 5)); (simp only [Nat.add_zero] at y0 v0))
                    have S7 := Lib.hid (S6.out.putT hk4 (newTk st))
                    rw [setT_setT] at S7
                    go_roundg (m + 32 - (j + 1))
                    case measure => omega
                    case rel => exact ⟨j + 1, P, A2, c2, R2, T', B', _, F6, got.length + 1, d6, got ++ [gt], by omega, rfl, rfl, by simp, HPA2, S7⟩
                  · have d8 : (en == 1) = false := by simp [hen1]
                    have hng : nextG got ⟨st, at', tp, bt, gt, en⟩ = got := if_neg hen1
                    rw [hng] at HPA2
                    by_cases hen0 : en = 0
                    · have d9 : (en != 0) = false := by simp [hen0]
                      have hnt : nextT ⟨st, at', tp, bt, gt, en⟩ = ⟨st, at', tp, bt, gt, en⟩ := if_pos hen0
                      rw [hnt] at HPA2
                      go_wp2_with fail
                      go_roundg (m + 32 - (j + 1))
                      case measure => omega
                      case rel => exact ⟨j + 1, P, A2, c2, R2, T', B', _, F, got.length, d, got, by omega, rfl, rfl, by simp, HPA2, S5⟩
                    · have d9 : (en != 0) = true := by simp [hen0]
                      have hnt : nextT ⟨st, at', tp, bt, gt, en⟩ = newTk st := if_neg hen0
                      rw [hnt] at HPA2
                      have y0 := S5.out.ta.cell (arrC_at _ (k := kn) (i := 0) hk4 (by rw [setT_at]; rfl))
                      have v0 := S5.out.ta.frozen (6 * kn + 0)
                      have y1 := S5.out.ta.cell (arrC_at _ (k := kn) (i := 1) hk4 (by rw [setT_at]; rfl))
                      have v1 := S5.out.ta.frozen (6 * kn + 1)
                      have y2 := S5.out.ta.cell (arrC_at _ (k := kn) (i := 2) hk4 (by rw [setT_at]; rfl))
                      have v2 := S5.out.ta.frozen (6 * kn + 2)
                      have y3 := S5.out.ta.cell (arrC_at _ (k := kn) (i := 3) hk4 (by rw [setT_at]; rfl))
                      have v3 := S5.out.ta.frozen (6 * kn + 3)
                      have y4 := S5.out.ta.cell (arrC_at _ (k := kn) (i := 4) hk4 (by rw [setT_at]; rfl))
                      have v4 := S5.out.ta.frozen (6 * kn + 4)
                      have y5 := S5.out.ta.cell (arrC_at _ (k := kn) (i := 5) hk4 (by rw [setT_at]; rfl))
                      have v5 := S5.out.ta.frozen (6 * kn + 5)
                      simp only [Nat.add_zero] at y0 v0
                      have S7 := Lib.hid (S5.out.putT hk4 (newTk st))
                      rw [setT_setT] at S7
                      go_wp2_with fail
                      go_roundg (m + 32 - (j + 1))
                      case measure => omega
                      case rel => exact ⟨j + 1, P, A2, c2, R2, T', B', _, F, got.length, d, got, by omega, rfl, rfl, by simp, HPA2, S7⟩
      · have d1 : decide (j < m + 32) = false := decide_eq_false hlt
        have c0 := SP.out.q.cell (j := 0) rfl
        have c1 := SP.out.q.cell (j := 1) rfl
        have c2 := SP.out.q.cell (j := 2) rfl
        have r0 := SP.out.res.cell (j := 0) rfl
        have r1 := SP.out.res.cell (j := 1) rfl
        have r2 := SP.out.res.cell (j := 2) rfl
        have z0 := SP.out.res.frozen 0
        have z1 := SP.out.res.frozen 1
        have z2 := SP.out.res.frozen 2
        go_wp2_with fail
        have hjj : j = Ks.length + 32 := by rw [HM.out]; omega
        have hn64 : n1 ≤ 1000 := by have := HN.out.bounds; omega
        have hq := SP.out
        refine bodyPost_ret (ret_play rfl rfl rfl rfl rfl (((hq.res.set 0 _).set 1 _).set 2 _) rfl) rfl ⟨A, n1, c, R, T, B, tk, F, k, d, got, P, rfl, hjj ▸ PA.out, ⟨own_store3 hq.ring hq.res (by decide), PA.out.inv.len, hn64⟩, own_store3 hq.list hq.res (by decide), ((hq.bel.setCell hq.hr _).setCell hq.hr _).setCell hq.hr _⟩
end Go.Proofs.YtcjmljpfhabmnaaDoor
