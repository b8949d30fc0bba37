/- dag.arrange in the seat YtpaambpajpmjdaaDoor: its contract. No statement is proved here. -/
import Derived.Test.YtpaambpajpmjdaaDoorZDagLink
import Derived.WalkMore
set_option linter.unusedSimpArgs false
set_option linter.unusedVariables false
namespace Go.Proofs.YtpaambpajpmjdaaDoor
open Go.RowKit

theorem sub_zero_iff {P T : Nat} (hP : P < 18446744073709551616) (hT : T < 18446744073709551616) : P &&& (18446744073709551615 - T) = 0 ↔ ∀ a, P.testBit a = true → T.testBit a = true := by
  have hc : ∀ a, (18446744073709551615 - T).testBit a = (decide (a < 64) && !T.testBit a) := fun a => by
    have h := Nat.testBit_two_pow_sub_succ (n := 64) (x := T) hT a
    rw [← h]
    congr 1
    omega
  have hb : ∀ a, P.testBit a = true → a < 64 := fun a ha => by
    rcases Nat.lt_or_ge a 64 with h | h
    · exact h
    · rw [Nat.testBit_lt_two_pow (Nat.lt_of_lt_of_le hP (Nat.pow_le_pow_right (by decide) h : 2 ^ 64 ≤ 2 ^ a))] at ha
      cases ha
  constructor
  · intro h a ha
    have h1 : (P &&& (18446744073709551615 - T)).testBit a = false := by rw [h, Nat.zero_testBit]
    rw [Nat.testBit_and, hc, ha, decide_eq_true (hb a ha)] at h1
    simpa using h1
  · intro h
    apply Nat.eq_of_testBit_eq
    intro a
    rw [Nat.testBit_and, hc, Nat.zero_testBit]
    cases hp : P.testBit a with
    | false => rfl
    | true => rw [h a hp]; simp
structure MaskOf (T : Nat) (out : List Nat) : Prop where
  lt : T < 18446744073709551616
  bit : ∀ a, T.testBit a = decide (a ∈ out)
theorem MaskOf.nil : MaskOf 0 [] := ⟨by decide, fun a => by rw [Nat.zero_testBit]; simp⟩
theorem MaskOf.snoc {T : Nat} {out : List Nat} (h : MaskOf T out) {m : Nat} (hm : m < 64) : MaskOf (T ||| 2 ^ m) (out ++ [m]) := by
  refine ⟨Nat.or_lt_two_pow (n := 64) h.lt (Nat.pow_lt_pow_right (by decide) hm), fun a => ?_⟩
  rw [or_bit_testBit, h.bit, Bool.eq_iff_iff, Bool.or_eq_true, decide_eq_true_iff, decide_eq_true_iff, decide_eq_true_iff, List.mem_append, List.mem_singleton]
  exact or_congr_right ⟨Eq.symm, Eq.symm⟩
theorem ready_mask {n : Nat} {E : List (Int × Int)} {ps : List Nat} (hF : Fits n E) (h : PredsOf n E ps) {T : Nat} {out : List Nat} (hM : MaskOf T out) {m : Nat} (hm : m < n) :
    ready n E out m = true ↔ T.testBit m = false ∧ ps.getD m 0 &&& (18446744073709551615 - T) = 0 := by
  rw [ready_iff hF, sub_zero_iff (h.lt m hm) hM.lt, hM.bit, decide_eq_false_iff_not]
  refine and_congr_right fun _ => ⟨fun k a ha => ?_, fun k a ha => ?_⟩
  · rw [h.bit m hm, decide_eq_true_iff] at ha
    rw [hM.bit, decide_eq_true_iff]
    exact k a ha
  · have := k a (by rw [h.bit m hm, decide_eq_true_iff]; exact ha)
    rwa [hM.bit, decide_eq_true_iff] at this
def vlen : Value → Nat
  | .slice _ n _ => n
  | _ => 0

set_option maxRecDepth 100000 in
set_option maxHeartbeats 4000000 in
theorem arrange_any (g n : Nat) (E : List (Int × Int)) (ps : List Nat) (w : World) (hl : n ≤ 64) (hF : Fits n E) (hPS : PredsOf n E ps) (hV : RowN g ps w) :
    Calls Tryd.prog 60 #[.slice (some ⟨g, 0, none⟩) n n] w fun e w' => Below w.heap.size w w' ∧
      ((Acyc E ∧ ∃ A c, e = .returned (.tuple #[.slice A n c, .bool true]) ∧ OwnI w' w.heap.size (.slice A n c) (nums (ord n E))) ∨ (¬ Acyc E ∧ e = .returned (.tuple #[.slice none 0 0, .bool false]))) := by
  have HF := Lib.hid hF
  have HPS := Lib.hid hPS
  have HV := Lib.hid hV
  have CH := Lib.hid (fun s x hs hx W' => set_has s x W' hs hx)
  have CW := Lib.hid (fun s x hs hx W' => set_with s x W' hs hx)
  have HGL := Lib.hid hV.lt
  clear hF hPS hV
  go_enter Tryd.func60, Tryd.ntmps60
  go_wp2
  go_step3
  go_wp2
  go_step3
  go_wp2
  go_loopw [4, 5] (fun v tv wr => ∃ (j T : Nat) (A : Option Addr) (c : Nat), j ≤ n ∧ v = .slice A j c ∧ tv = .int .u64 T ∧ Hid ((ordK n E j).length = j) ∧ Hid (MaskOf T (ordK n E j)) ∧ Hid (OwnI wr w.heap.size (.slice A j c) (nums (ordK n E j))) ∧ Hid (Below w.heap.size w wr)) (fun v _ _ => n - vlen v)
  case atStart => exact ⟨0, 0, none, 0, Nat.zero_le _, rfl, rfl, Lib.hid rfl, Lib.hid MaskOf.nil, Lib.hid (ownI_nil _ _), Lib.hid (Below.refl _ _)⟩
  case round =>
    obtain ⟨j, T, A, c, hj, rfl, rfl, HL, HM, HO, HB⟩ := hrel
    by_cases hlt : j < n
    · obtain ⟨out, hout⟩ : ∃ out, out = ordK n E j := ⟨_, rfl⟩
      have HOUT := Lib.hid hout
      rw [← hout] at HO HM HL
      clear hout
      have hT64 := HM.out.lt
      go_wp2
      go_loopw [4, 5, 15] (fun v tv i wi => ∃ p : Nat, p ≤ n ∧ i = .int .i64 p ∧ v = .slice A j c ∧ tv = .int .u64 T ∧ Hid (∀ q, q < p → ready n E out q = false) ∧ wi = wr) (fun _ _ i _ => n - (intOf i).toNat)
      case atStart => exact ⟨0, Nat.zero_le _, rfl, rfl, rfl, Lib.hid (fun q hq => by omega), rfl⟩
      case round =>
        obtain ⟨p, hp, rfl, rfl, rfl, HNR, rfl⟩ := hrel
        have hsz := HB.out.size
        by_cases hlt2 : p < n
        · have hc1 := (HV.out.below HB.out HGL.out).cell (natsV_at (ps := ps) (j := p) (by rw [HPS.out.len]; exact hlt2))
          have C1 := Lib.hid (CH.out T p hT64 (by omega) wr)
          have C2 := Lib.hid (CW.out T p hT64 (by omega) wr)
          have hps := HPS.out.lt p hlt2
          have HR := Lib.hid (ready_mask HF.out HPS.out HM.out hlt2)
          obtain ⟨q, hq⟩ : ∃ q, q = ps.getD p 0 := ⟨_, rfl⟩
          rw [← hq] at hc1 hps HR
          have hz := u64_andNot_nat q T hps hT64
          obtain ⟨z, hz2⟩ : ∃ z, z = q &&& (18446744073709551615 - T) := ⟨_, rfl⟩
          rw [← hz2] at hz HR
          have hgw : g < wr.heap.size := by have := HGL.out; omega
          clear hq hz2
          cases hb : T.testBit p with
          | true =>
            rw [hb] at C1
            have HRF := Lib.hid (show ready n E out p = false by
              rw [← Bool.not_eq_true, HR.out, hb]
              exact fun h => Bool.noConfusion h.1)
            clear hb
            go_wp2_with (go_at_call 66; refine C1.out.mono ?_; rintro e w' ⟨rfl, rfl⟩)
            go_roundw
            case rel => exact ⟨p + 1, by omega, by go_num, rfl, rfl, Lib.hid (fun q hq => by
              rcases Nat.lt_or_ge q p with h | h
              · exact HNR.out q h
              · obtain rfl : q = p := by omega
                exact HRF.out), (by first | trivial | rfl)⟩
            case measure => simp [intOf]; omega
          | false =>
            rw [hb] at C1
            by_cases hz0 : z = 0
            · have HRT := Lib.hid (HR.out.mpr ⟨hb, hz0⟩)
              have HPK := Lib.hid (pick_at hlt2 HRT.out HNR.out)
              have HOK := Lib.hid (ordK_some (n := n) (E := E) (k := j) (by rw [← HOUT.out]; exact HPK.out))
              have hze : ((z : Int) == 0) = true := by simpa using hz0
              clear hb hz0
              go_wp2_with (first
                | (go_at_call 66; refine C1.out.mono ?_; rintro e w' ⟨rfl, rfl⟩)
                | (go_at_call 67; refine (CW.out T p hT64 (by omega) _).mono ?_; rintro e w' ⟨rfl, rfl⟩)
                | (at_builtin; refine wpList_push rfl _ _ rfl wr w.heap.size _ (nums out) (p : Int) j (by rw [nums_length]; exact HL.out) (by omega) HO.out hsz rfl rfl ?_; intro A4 c4 w4 HO4 HB4; (have HO4' := Lib.hid HO4); (have HB4' := Lib.hid HB4); clear HO4 HB4))
              go_roundw
              case rel => exact ⟨j + 1, T ||| 2 ^ p, A4, c4, by omega, rfl, rfl, Lib.hid (by rw [HOK.out, ← HOUT.out, List.length_append, HL.out]; rfl), Lib.hid (by rw [HOK.out, ← HOUT.out]; exact HM.out.snoc (by omega)), Lib.hid (by rw [HOK.out, ← HOUT.out, nums_snoc]; exact HO4'.out), Lib.hid (HB.out.trans HB4'.out)⟩
              case measure => simp [vlen]; omega
            · have HRF := Lib.hid (show ready n E out p = false by
                rw [← Bool.not_eq_true, HR.out]
                exact fun h => hz0 h.2)
              have hze : ((z : Int) == 0) = false := by simpa using hz0
              clear hb hz0
              go_wp2_with (go_at_call 66; refine C1.out.mono ?_; rintro e w' ⟨rfl, rfl⟩)
              go_roundw
              case rel => exact ⟨p + 1, by omega, by go_num, rfl, rfl, Lib.hid (fun q hq => by
                rcases Nat.lt_or_ge q p with h | h
                · exact HNR.out q h
                · obtain rfl : q = p := by omega
                  exact HRF.out), (by first | trivial | rfl)⟩
              case measure => simp [intOf]; omega
        · obtain rfl : p = n := by omega
          have HNA : Hid (¬ Acyc E) := Lib.hid (fun hA => by
            obtain ⟨m, hm⟩ := pick_some HF.out hA (ordK_ordered HF.out j) (by rw [← HOUT.out, HL.out]; exact hlt)
            rw [← HOUT.out, pick_nil HNR.out] at hm
            cases hm)
          go_wp2
          try rw [Exit.noGoto_ret]
          go_ret2
          exact ⟨HB.out, .inr ⟨HNA.out, rfl⟩⟩
    · obtain rfl : j = n := by omega
      have HA : Hid (Acyc E) := Lib.hid ((ordK_ordered HF.out j).acyc HL.out HF.out)
      go_wp2
      try rw [Exit.noGoto_ret]
      go_ret2
      exact ⟨HB.out, .inl ⟨HA.out, A, c, rfl, HO.out⟩⟩
end Go.Proofs.YtpaambpajpmjdaaDoor
