/- eval.places, eval.ways and eval.come in the seat YtkmajhbfmdoamaaGreatDoor: their contracts. No statement is proved here. -/
import Derived.Test.YtkmajhbfmdoamaaGreatDoorZM28
import Derived.Test.YtkmajhbfmdoamaaGreatDoorZM13
import Derived.Laws.ResultCell
import Derived.Laws.EntriesVeiled
set_option linter.unusedSimpArgs false
set_option linter.unusedVariables false
namespace Go.Proofs.YtkmajhbfmdoamaaGreatDoor
open Go.RowKit Go.Maps Go.MapKept Go.ChangeMaps Go.WideElems

/-! The map of an input's numbers -/
/-- What is at a place of an input, as a value. -/
def inV (inp : List Int) (k : Int) : Int := if 0 ≤ k then val32 (inp.getD k.toNat 0) else 0
theorem inV_snoc {inp : List Int} {j : Nat} {z k : Int} (h : inp[j]? = some z) : inV (inp.take (j + 1)) k = if k = (j : Int) then val32 z else inV (inp.take j) k := by
  have hj := (List.getElem?_eq_some_iff.mp h).1
  have hl : (inp.take j).length = j := by rw [List.length_take]; omega
  rw [List.take_add_one, h]
  unfold inV
  by_cases h0 : 0 ≤ k
  · obtain ⟨n, rfl⟩ : ∃ n : Nat, k = n := ⟨k.toNat, by omega⟩
    rw [if_pos h0, if_pos h0, Int.toNat_natCast, List.getD_eq_getElem?_getD, List.getD_eq_getElem?_getD]
    by_cases h1 : n = j
    · subst h1
      rw [if_pos rfl, List.getElem?_append_right (by omega), hl, Nat.sub_self]
      rfl
    · rw [if_neg (by omega)]
      by_cases h2 : n < j
      · rw [List.getElem?_append_left (by omega)]
      · rw [List.getElem?_eq_none (by rw [List.length_append, hl]; simp; omega), List.getElem?_eq_none (by omega)]
  · rw [if_neg h0, if_neg h0, if_neg (by omega)]
/-- A map of values of the call's own. -/
def OwnV (w : World) (b n : Nat) (D : DataW Unit) : Prop := w.ownsMap Tryz.prog 3 (plainElem Tryz.prog 84) b n D
def TellsI (D : DataW Unit) (inp : List Int) : Prop := ∀ k : Int, D.atKey (.int .i64 k) (.lit (.int .u32 0)) = .lit (.int .u32 (inV inp k))
theorem zero_val (w : World) : (zeroValue 84).run Tryz.prog w = .ok (.int .u32 0) w := by kernel_rfl
theorem wfU {v : Int} (h : 0 ≤ v ∧ v < 4294967296) : (Lit.int .u32 v).wf = true := by
  have e1 : IntKind.u32.min = 0 := by decide
  have e2 : IntKind.u32.max = 4294967295 := by decide
  simp [Lit.wf, e1, e2]
  omega
set_option maxRecDepth 100000 in
theorem inp_run {w : World} {b n : Nat} {D : DataW Unit} {inp : List Int} {k : Int} (h : OwnV w b n D) (ht : TellsI D inp) (h1 : -9223372036854775808 ≤ k) (h2 : k ≤ 9223372036854775807) : (Instr.lookup 66 (.map (some b)) (.int .i64 k) false).run Tryz.prog w = .ok (.int .u32 (inV inp k)) w := by
  obtain ⟨c, hr, hat, _⟩ := h.lookup_int law_int Tryz.underlying66 Tryz.underlying84 (zero_val w) (key_int h1 h2)
  rw [ht k] at hat
  injection hat with h1
  injection h1 with _ h2
  rw [hr, h2]
theorem OwnV.below {w w' : World} {b n : Nat} {D : DataW Unit} (h : OwnV w b n D) (hb : Below w.heap.size w w') : OwnV w' b n D := by
  have hl := h.lt
  obtain ⟨es, clock, hb', F, hs, hD⟩ := h
  exact ⟨es, clock, by rw [hb.block b hl]; exact hb', F, hs, hD⟩
theorem TellsI.put {D : DataW Unit} {inp : List Int} {j : Nat} {z v : Int} (h : TellsI D (inp.take j)) (hD : IsMap D) (hz : inp[j]? = some z) (hv : v = val32 z) : TellsI (D.put (.int .i64 (j : Int)) (.lit (.int .u32 v))) (inp.take (j + 1)) := fun k => by
  rw [inV_snoc hz]
  by_cases e : k = (j : Int)
  · subst e
    rw [atKey_put_same hD (by simp [WideAt.IsKeyLit]), if_pos rfl, hv]
  · rw [atKey_put_other (fun h => by injection h with _ h; omega), if_neg e]
    exact h k
theorem inp_put {w : World} {b n : Nat} {D : DataW Unit} (h : OwnV w b n D) (hn : n ≤ 100000) {x v : Int} (hx1 : -9223372036854775808 ≤ x) (hx2 : x ≤ 9223372036854775807) (hv : 0 ≤ v ∧ v < 4294967296) :
    ∃ w', (Instr.mapUpdate 66 (.map (some b)) (.int .i64 x) (.int .u32 v)).run Tryz.prog w = .ok () w' ∧ OwnV w' b (n + 1) (D.put (.int .i64 x) (.lit (.int .u32 v))) ∧ w.grownBy w' (some b) :=
  h.update law_int Tryz.underlying66 (by unfold maxLen; omega) (key_int hx1 hx2) (plainElem_int Tryz.underlying84 (wfU hv))
theorem wrap_val (n : Int) : IntKind.u32.wrap n = val32 n := by rw [IntKind.wrap_u32]; rfl
set_option maxRecDepth 100000 in
set_option maxHeartbeats 4000000 in
theorem places_any (A : Option Addr) (n c : Nat) (inp : List Int) (w : World) (hn : inp.length = n) (hl : n ≤ 1000) (hI : Ints w w.heap.size A inp) :
    Calls Tryz.prog 25 #[.slice A n c] w fun e w' => ∃ b k D, e = .returned (.map (some b)) ∧ w.heap.size ≤ b ∧ OwnV w' b k D ∧ TellsI D inp ∧ Below w.heap.size w w' := by
  have HI := Lib.hid hI
  have HN := Lib.hid hn
  have hmm : ∀ W : World, (Instr.makeMap 66 (some (.int .i64 (n : Int)))).run Tryz.prog W = .ok (.map (some W.heap.size)) (W.alloc (.map #[] 0)) := fun W => by simp [Instr.makeMap, asInt, asIntOf]
  have H0 : Hid (OwnV (w.alloc (.map #[] 0)) w.heap.size 0 (.map [])) := Lib.hid (World.ownsMap_made w _ _ _)
  have hT0 : TellsI (.map []) ([] : List Int) := fun k => by
    show (.lit (.int .u32 0) : DataW Unit) = _
    unfold inV
    simp [val32]
  have HT0 := Lib.hid hT0
  clear hI hn hT0
  go_enter Tryz.func25, Tryz.ntmps25
  go_wp2
  go_loopw [11] (fun i wr => ∃ (j k : Nat) (D : DataW Unit), j ≤ n ∧ k ≤ j ∧ i = .int .i64 j ∧ Hid (OwnV wr w.heap.size k D) ∧ Hid (TellsI D (inp.take j)) ∧ Hid (Below w.heap.size w wr)) (fun i _ => n - (intOf i).toNat)
  case atStart => exact ⟨0, 0, _, Nat.zero_le _, Nat.le_refl _, rfl, H0, HT0, Lib.hid (below_alloc _)⟩
  case round =>
    obtain ⟨j, k, D, hj, hk, rfl, HO, HT, HB⟩ := hrel
    clear H0 HT0
    by_cases hlt : j < n
    · obtain ⟨bk, o, z, rfl, hbg, hzj, hc1⟩ := HI.out.at_ (k := j) (by rw [HN.out]; exact hlt)
      have hc2 := (HB.out.cell (p := ⟨bk, o + j, none⟩) hbg).trans hc1
      have hv := wrap_val z
      obtain ⟨v, hve⟩ : ∃ v, v = val32 z := ⟨_, rfl⟩
      rw [← hve] at hv
      have hvi := val32_in z
      rw [← hve] at hvi
      obtain ⟨w2, hu, hm2, hg2⟩ := inp_put HO.out (by omega) (x := (j : Int)) (v := v) (by omega) (by omega) hvi
      have HO2 := Lib.hid hm2
      have HT2 := Lib.hid (HT.out.put HO.out.isMap hzj hve)
      have HB2 := Lib.hid (HB.out.trans (mapped_below (Nat.le_refl _) hg2 HB.out.size))
      clear hc1 hzj hve hm2 hg2 HO HT HB hbg
      go_wp2
      go_roundw
      case rel => exact ⟨j + 1, k + 1, _, by omega, by omega, by go_num, HO2, HT2, HB2⟩
      case measure => simp [intOf]; omega
    · obtain rfl : j = n := by omega
      have hT := HT.out
      rw [List.take_of_length_le (by rw [HN.out]; exact Nat.le_refl _)] at hT
      have HTE := Lib.hid hT
      clear hT
      go_wp2
      go_ret
      exact ⟨_, _, _, rfl, Nat.le_refl _, HO.out, HTE.out, HB.out⟩

/-! The ways to come to a value -/
theorem keep_any (a v : Int) (w : World) : Calls Tryz.prog 79 #[.int .u32 a, .int .u32 v] w fun e w' => e = .returned (.int .u32 a) ∧ w = w' := by
  go_enter Tryz.func79, Tryz.ntmps79
  go_wp2
  go_ret
  exact ⟨rfl, rfl⟩
theorem sum_any8 (a v r : Int) (hr : IntKind.u32.wrap (a + v) = r) (w : World) : Calls Tryz.prog 80 #[.int .u32 a, .int .u32 v] w fun e w' => e = .returned (.int .u32 r) ∧ w = w' := by
  go_enter Tryz.func80, Tryz.ntmps80
  go_wp2
  go_ret
  exact ⟨by rw [← hr]; rfl, rfl⟩
theorem prod_any8 (a v r : Int) (hr : IntKind.u32.wrap (a * v) = r) (w : World) : Calls Tryz.prog 81 #[.int .u32 a, .int .u32 v] w fun e w' => e = .returned (.int .u32 r) ∧ w = w' := by
  go_enter Tryz.func81, Tryz.ntmps81
  go_wp2
  go_ret
  exact ⟨by rw [← hr]; rfl, rfl⟩
theorem max_any8 (a v : Int) (w : World) : Calls Tryz.prog 82 #[.int .u32 a, .int .u32 v] w fun e w' => e = .returned (.int .u32 (max a v)) ∧ w = w' := by
  have h1 : ∀ h : a ≤ v, max a v = v := fun h => Int.max_eq_right h
  have h2 : ∀ h : v ≤ a, max a v = a := fun h => Int.max_eq_left h
  obtain ⟨r, hr⟩ : ∃ r, r = max a v := ⟨_, rfl⟩
  rw [← hr] at h1 h2 ⊢
  have H1 := Lib.hid h1
  have H2 := Lib.hid h2
  have HMX := Lib.hid hr
  clear h1 h2 hr
  go_enter Tryz.func82, Tryz.ntmps82
  go_wp2
  all_goals go_ret
  all_goals first
    | exact ⟨by rw [H1.out (by omega)]; rfl, rfl⟩
    | exact ⟨by rw [H2.out (by omega)]; rfl, rfl⟩
    | exact ⟨by rw [HMX.out]; rfl, rfl⟩
theorem mix_any8 (a v q r : Int) (hq : IntKind.u32.wrap (31 * a) = q) (hr : IntKind.u32.wrap (q + v) = r) (w : World) : Calls Tryz.prog 83 #[.int .u32 a, .int .u32 v] w fun e w' => e = .returned (.int .u32 r) ∧ w = w' := by
  go_enter Tryz.func83, Tryz.ntmps83
  go_wp2
  go_ret
  exact ⟨by rw [← hr]; rfl, rfl⟩
def wayF (f : Nat) : Value := .func (.func f) #[] #[]
def waysL (arg : Int) (inp : List Int) : Array Value := #[.int .u32 (inV inp arg), wayF 79, .int .u32 (val32 arg), wayF 79, .int .u32 0, wayF 80, .int .u32 1, wayF 81, .int .u32 0, wayF 82, .int .u32 7, wayF 83]
set_option maxRecDepth 100000 in
set_option maxHeartbeats 4000000 in
theorem ways_any (arg : Int) (inp : List Int) (b k : Nat) (D : DataW Unit) (w : World) (h1 : -9223372036854775808 ≤ arg) (h2 : arg ≤ 9223372036854775807) (hM : OwnV w b k D) (hT : TellsI D inp) :
    Calls Tryz.prog 53 #[.int .i64 arg, .map (some b)] w fun e w' => e = .returned (.agg (waysL arg inp)) ∧ Below w.heap.size w w' := by
  have hlt := hM.lt
  have hlook := fun o => inp_run (hM.below (below_alloc (w := w) o)) hT h1 h2
  have hv := wrap_val arg
  obtain ⟨z, hz⟩ : ∃ z, z = val32 arg := ⟨_, rfl⟩
  obtain ⟨u, hu⟩ : ∃ u, u = inV inp arg := ⟨_, rfl⟩
  unfold waysL
  rw [← hz] at hv ⊢
  simp only [← hu] at hlook ⊢
  clear hz hu hM hT
  go_enter Tryz.func53, Tryz.ntmps53
  go_wp2
  have hrow := heap_alloc_new w (.cells #[.int .u32 u, wayF 79, .int .u32 z, wayF 79, .int .u32 0, wayF 80, .int .u32 1, wayF 81, .int .u32 0, wayF 82, .int .u32 7, wayF 83] 99)
  refine bodyPost_ret (v := .agg #[.int .u32 u, wayF 79, .int .u32 z, wayF 79, .int .u32 0, wayF 80, .int .u32 1, wayF 81, .int .u32 0, wayF 82, .int .u32 7, wayF 83]) ?_ rfl ⟨rfl, below_alloc _⟩
  exact results_cell_row rfl _ _ w.heap.size _ _ _ _ rfl hrow Tryz.underlying99 rfl (by kernel_rfl)
end Go.Proofs.YtkmajhbfmdoamaaGreatDoor
