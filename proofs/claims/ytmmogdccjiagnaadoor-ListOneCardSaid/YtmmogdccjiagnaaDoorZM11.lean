/- sched.Check in the seat YtmmogdccjiagnaaDoor: its contract.
   Ran, free and Form of trefoilref10 in the seat YtmmogdccjiagnaaDoor: their contracts.
   Few, Form and One of trefoilref10 in the seat YtmmogdccjiagnaaDoor: their contracts.
   Graphs, needs and schedules as rows hand them over; the graph's own copy, in the seat YtmmogdccjiagnaaDoor.
   Crews (plain): who is ready, filled cores, a tick, the run off a list, in the seat YtmmogdccjiagnaaDoor. No statement is proved here; it imports nothing of the program.
   No statement is proved here. -/
import Derived.Test.YtmmogdccjiagnaaDoorZM10
import Derived.BigQuiet
import Derived.Test.YtmmogdccjiagnaaDoorZM5
import Derived.Test.YtmmogdccjiagnaaDoorZM2
import Derived.Test.YtmmogdccjiagnaaDoorZM7
import Derived.Test.YtmmogdccjiagnaaDoorZM6
set_option linter.unusedSimpArgs false
set_option linter.unusedVariables false
namespace Go.Proofs.YtmmogdccjiagnaaDoor
open Go.RowKit

open Classical in
/-- What Check tells. -/
noncomputable def schedE (W : List Int) (E : List (Int × Int)) (need : List Int) (cores : Int) (t : List (List Int)) : Int :=
  if chkE W E ≠ 0 then chkE W E else if ¬ (FormOk W need cores ∧ ∀ r ∈ t, (r.length : Int) = cores) then 100 else faultV E need cores.toNat t
/-- A schedule that may be. -/
structure SchedOk (W : List Int) (E : List (Int × Int)) (need : List Int) (cores : Nat) (t : List (List Int)) : Prop where
  may : May W E
  form : FormOk W need cores
  good : Good E need cores t
theorem schedE_bad {W : List Int} {E : List (Int × Int)} {need : List Int} {cores : Int} {t : List (List Int)} (h : chkE W E ≠ 0) : schedE W E need cores t = chkE W E := by unfold schedE; rw [if_pos h]
theorem schedE_form {W : List Int} {E : List (Int × Int)} {need : List Int} {cores : Int} {t : List (List Int)} (h : chkE W E = 0) (h2 : ¬ (FormOk W need cores ∧ ∀ r ∈ t, (r.length : Int) = cores)) : schedE W E need cores t = 100 := by unfold schedE; rw [if_neg (fun q => q h), if_pos h2]
theorem schedE_fault {W : List Int} {E : List (Int × Int)} {need : List Int} {cores : Int} {t : List (List Int)} (h : chkE W E = 0) (h2 : FormOk W need cores ∧ ∀ r ∈ t, (r.length : Int) = cores) : schedE W E need cores t = faultV E need cores.toNat t := by unfold schedE; rw [if_neg (fun q => q h), if_neg (fun q => q h2)]
theorem schedE_zero {W : List Int} {E : List (Int × Int)} {need : List Int} {cores : Int} {t : List (List Int)} : schedE W E need cores t = 0 ↔ ∃ c : Nat, cores = (c : Int) ∧ SchedOk W E need c t := by
  constructor
  · intro h
    by_cases h1 : chkE W E = 0
    · by_cases h2 : FormOk W need cores ∧ ∀ r ∈ t, (r.length : Int) = cores
      · rw [schedE_fault h1 h2] at h
        obtain ⟨c, rfl⟩ : ∃ c : Nat, cores = (c : Int) := ⟨cores.toNat, by have := h2.1.2.2; omega⟩
        rw [Int.toNat_natCast] at h
        exact ⟨c, rfl, chkE_zero.mp h1, h2.1, (good_iff fun r hr => by have := h2.2 r hr; omega).mpr h⟩
      · rw [schedE_form h1 h2] at h
        cases h
    · rw [schedE_bad h1] at h
      exact absurd h h1
  · rintro ⟨c, rfl, hs⟩
    rw [schedE_fault (chkE_zero.mpr hs.may) ⟨hs.form, fun r hr => by rw [hs.good.rows r hr]⟩, Int.toNat_natCast]
    exact (good_iff hs.good.rows).mp hs.good
section
variable {A : Option Addr} {n c : Nat} {F : Option Addr} {m d : Nat} {W : List Int} {E : List (Int × Int)} {N : Option Addr} {nn nc : Nat} {need : List Int} {T : Option Addr} {tn tc : Nat} {t : List (List Int)}
set_option maxRecDepth 100000 in
set_option maxHeartbeats 4000000 in
theorem scheck_any (cores : Int) (w : World) (h : IsG w A n c F m d W E) (hS : IsS w N nn nc T tn tc need t) :
    Calls Tryd.prog 32 #[.agg #[.slice A n c, .slice F m d], .slice N nn nc, .int .i64 cores, .slice T tn tc] w fun e w' => e = .returned (.int .i64 (schedE W E need cores t)) ∧ Below w.heap.size w w' := by
  have H := Lib.hid h
  have HS := Lib.hid hS
  obtain ⟨w0, hw0⟩ : ∃ w0, w0 = w.alloc (.cells #[.slice A n c, .slice F m d] 25) := ⟨_, rfl⟩
  have HW0 := Lib.hid hw0
  have hb0 : Below w.heap.size w w0 := by rw [hw0]; exact below_alloc _
  have hs0 : w.heap.size < w0.heap.size := by rw [hw0]; simp
  have p0 : w0.cell? ⟨w.heap.size, 0, none⟩ = some (.slice A n c) := by rw [hw0, World.cell?_alloc_at _ _ _ _ rfl]; rfl
  have p1 : w0.cell? ⟨w.heap.size, 1, none⟩ = some (.slice F m d) := by rw [hw0, World.cell?_alloc_at _ _ _ _ rfl]; rfl
  have HB0 := Lib.hid hb0
  have HS0 := Lib.hid hs0
  have P0 := Lib.hid p0
  have P1 := Lib.hid p1
  have C1 := Lib.hid (check_done w0 (h.below hb0))
  obtain ⟨e1, he1⟩ : ∃ e, e = chkE W E := ⟨_, rfl⟩
  rw [← he1] at C1
  have HE1 := Lib.hid he1
  obtain ⟨r, hr⟩ : ∃ r, r = schedE W E need cores t := ⟨_, rfl⟩
  rw [← hr]
  have HR := Lib.hid hr
  have CN := Lib.hid (fun (W' : World) (hS : IsS W' N nn nc T tn tc need t) => rightNeeds_any (A := A) (n := n) (c := c) (F := F) (m := m) (d := d) (W := W) (nc := nc) cores W' hS.hn (by have := hS.ln; omega) h.hn hS.ints)
  have CR := Lib.hid (fun (W' : World) (hS : IsS W' N nn nc T tn tc need t) => rightRows_any (tc := tc) cores W' hS.ht (by have := hS.lt; omega) hS.rows)
  clear h hS hw0 hb0 hs0 p0 p1 he1 hr
  by_cases hz : e1 = 0
  · subst hz
    have HZ := Lib.hid HE1.out.symm
    by_cases h1 : FormOk W need cores
    · rw [decide_eq_true h1] at CN
      by_cases h2 : ∀ r ∈ t, (r.length : Int) = cores
      · rw [decide_eq_true h2] at CR
        obtain ⟨k, rfl⟩ : ∃ k : Nat, cores = (k : Int) := ⟨cores.toNat, by have := h1.2.2; omega⟩
        have hrv : r = faultV E need k t := by rw [HR.out, schedE_fault HZ.out ⟨h1, h2⟩, Int.toNat_natCast]
        have CF := Lib.hid (fun (W' : World) (h : IsG W' A n c F m d W E) (hS : IsS W' N nn nc T tn tc need t) => fault_any W' h hS (chkE_zero.mp HZ.out) h1 (fun r hr => by have := h2 r hr; omega))
        rw [← hrv] at CF
        clear h1 h2 hrv
        go_enter Tryd.func32, Tryd.ntmps32
        go_wp2_with fail
        rw [← HW0.out]
        refine C1.out.mono ?_
        rintro e w1 ⟨rfl, b⟩
        have HB1 := Lib.hid (HB0.out.trans (b.mono HB0.out.size))
        have q0 := (b.cell HS0.out).trans P0.out
        have q1 := (b.cell HS0.out).trans P1.out
        have HQ0 := Lib.hid q0
        have HQ1 := Lib.hid q1
        have HS1 := Lib.hid (Nat.lt_of_lt_of_le HS0.out b.size)
        clear b
        go_wp2_with fail
        refine (CN.out _ (HS.out.below HB1.out)).mono ?_
        rintro e w2 ⟨rfl, b⟩
        have HB2 := Lib.hid (HB1.out.trans (b.mono HB1.out.size))
        have q0 := (b.cell HS1.out).trans HQ0.out
        have q1 := (b.cell HS1.out).trans HQ1.out
        have HS2 := Lib.hid (Nat.lt_of_lt_of_le HS1.out b.size)
        have HQ0 := Lib.hid q0
        have HQ1 := Lib.hid q1
        clear b
        go_wp2_with fail
        refine (CR.out _ (HS.out.below HB2.out)).mono ?_
        rintro e w3 ⟨rfl, b⟩
        have HB3 := Lib.hid (HB2.out.trans (b.mono HB2.out.size))
        have q0 := (b.cell HS2.out).trans HQ0.out
        have q1 := (b.cell HS2.out).trans HQ1.out
        clear b
        go_wp2_with fail
        refine (CF.out _ (H.out.below HB3.out) (HS.out.below HB3.out)).mono ?_
        rintro e w4 ⟨rfl, b⟩
        have HB4 := Lib.hid (HB3.out.trans (b.mono HB3.out.size))
        clear b
        go_wp2
        go_ret
        exact ⟨rfl, HB4.out⟩
      · rw [decide_eq_false h2] at CR
        obtain rfl : r = 100 := HR.out.trans (schedE_form HZ.out fun q => h2 q.2)
        clear h1 h2
        go_enter Tryd.func32, Tryd.ntmps32
        go_wp2_with fail
        rw [← HW0.out]
        refine C1.out.mono ?_
        rintro e w1 ⟨rfl, b⟩
        have HB1 := Lib.hid (HB0.out.trans (b.mono HB0.out.size))
        have q0 := (b.cell HS0.out).trans P0.out
        have q1 := (b.cell HS0.out).trans P1.out
        clear b
        go_wp2_with fail
        refine (CN.out _ (HS.out.below HB1.out)).mono ?_
        rintro e w2 ⟨rfl, b⟩
        have HB2 := Lib.hid (HB1.out.trans (b.mono HB1.out.size))
        clear b q0 q1
        go_wp2_with fail
        refine (CR.out _ (HS.out.below HB2.out)).mono ?_
        rintro e w3 ⟨rfl, b⟩
        have HB3 := Lib.hid (HB2.out.trans (b.mono HB2.out.size))
        clear b
        go_wp2
        go_ret
        exact ⟨rfl, HB3.out⟩
    · rw [decide_eq_false h1] at CN
      obtain rfl : r = 100 := HR.out.trans (schedE_form HZ.out fun q => h1 q.1)
      clear h1
      go_enter Tryd.func32, Tryd.ntmps32
      go_wp2_with fail
      rw [← HW0.out]
      refine C1.out.mono ?_
      rintro e w1 ⟨rfl, b⟩
      have HB1 := Lib.hid (HB0.out.trans (b.mono HB0.out.size))
      have q0 := (b.cell HS0.out).trans P0.out
      have q1 := (b.cell HS0.out).trans P1.out
      clear b
      go_wp2_with fail
      refine (CN.out _ (HS.out.below HB1.out)).mono ?_
      rintro e w2 ⟨rfl, b⟩
      have HB2 := Lib.hid (HB1.out.trans (b.mono HB1.out.size))
      clear b q0 q1
      go_wp2
      go_ret
      exact ⟨rfl, HB2.out⟩
  · have hne : (e1 == 0) = false := by simpa using hz
    obtain rfl : r = e1 := by rw [HR.out, HE1.out]; exact schedE_bad (by rw [← HE1.out]; exact hz)
    clear hz
    go_enter Tryd.func32, Tryd.ntmps32
    go_wp2_with fail
    rw [← HW0.out]
    refine C1.out.mono ?_
    rintro e w1 ⟨rfl, b⟩
    have HB1 := Lib.hid (HB0.out.trans (b.mono HB0.out.size))
    clear b
    go_wp2
    go_ret
    exact ⟨rfl, HB1.out⟩
end
end Go.Proofs.YtmmogdccjiagnaaDoor
set_option linter.unusedVariables false
namespace Go.Proofs.YtmmogdccjiagnaaDoor
open Go.RowKit

section
variable {A : Option Addr} {n c : Nat} {F : Option Addr} {m d : Nat} {W : List Int} {E : List (Int × Int)} {N : Option Addr} {nn nc : Nat} {need : List Int} {T : Option Addr} {tn tc : Nat} {t : List (List Int)}
theorem free_next {k : Nat} {x : Int} {e : Int × Int} {i : Nat} (hE : E[i]? = some e) : (∀ e' ∈ E.take (i + 1), e'.2 = x → needT need e'.1 ≤ ranT t e'.1 k) ↔ (∀ e' ∈ E.take i, e'.2 = x → needT need e'.1 ≤ ranT t e'.1 k) ∧ (e.2 = x → needT need e.1 ≤ ranT t e.1 k) := by
  rw [take_snoc' hE]
  constructor
  · intro h
    exact ⟨fun e' he => h e' (List.mem_append_left _ he), h e (by simp)⟩
  · rintro ⟨h1, h2⟩ e' he
    rcases List.mem_append.mp he with he | he
    · exact h1 e' he
    · rw [List.mem_singleton] at he
      rw [he]; exact h2
end
end Go.Proofs.YtmmogdccjiagnaaDoor
set_option linter.unusedVariables false
namespace Go.Proofs.YtmmogdccjiagnaaDoor
open Go.RowKit

section
variable {A : Option Addr} {n c : Nat} {F : Option Addr} {m d : Nat} {W : List Int} {E : List (Int × Int)} {N : Option Addr} {nn nc : Nat} {need : List Int} {T : Option Addr} {tn tc : Nat} {t : List (List Int)}
set_option maxRecDepth 100000 in
set_option maxHeartbeats 4000000 in
theorem rform_any (cores : Int) (w : World) (hn : need.length = nn) (hl : nn ≤ 400) (hW : W.length = n) (hI : Ints w w.heap.size N need) :
    Calls Tryd.prog 52 #[.agg #[.slice A n c, .slice F m d], .slice N nn nc, .int .i64 cores] w fun e w' => e = .returned (.bool (decide (FormOk W need cores))) ∧ Below w.heap.size w w' := by
  have HI := Lib.hid hI
  have HN := Lib.hid hn
  have HF := Lib.hid (form_iff cores hn hW)
  obtain ⟨r, hr⟩ : ∃ r, r = decide (FormOk W need cores) := ⟨_, rfl⟩
  rw [← hr]
  have HR := Lib.hid hr
  obtain ⟨w0, hw0⟩ : ∃ w0, w0 = w.alloc (.cells #[.slice A n c, .slice F m d] 25) := ⟨_, rfl⟩
  have HW0 := Lib.hid hw0
  clear hI hn hW hr hw0
  go_enter Tryd.func52, Tryd.ntmps52
  go_wp2
  go_loopw [7] (fun v wr => ∃ k : Nat, k ≤ nn ∧ v = .int .i64 k ∧ wr = w.alloc (.cells #[.slice A n c, .slice F m d] 25) ∧ Hid (∀ z ∈ need.take k, badN z = false)) (fun v _ => nn - (intOf v).toNat)
  case atStart => exact ⟨0, Nat.zero_le _, rfl, rfl, Lib.hid (fun z hz => by simp at hz)⟩
  case round =>
    obtain ⟨k, hk, rfl, rfl, HO⟩ := hrel
    by_cases hlt : k < nn
    · obtain ⟨bk, off, z, rfl, hbk, hzk, hcz⟩ := HI.out.at_ (k := k) (by rw [HN.out]; exact hlt)
      have HZK := Lib.hid hzk
      have hd : (w.alloc (.cells #[.slice A n c, .slice F m d] 25)).cell? ⟨bk, off + k, none⟩ = some (.int .i64 z) := by rw [World.cell?_alloc_lt _ _ _ hbk]; exact hcz
      clear hzk
      by_cases h1 : z < 1
      · obtain rfl : r = false := by
          rw [HR.out, decide_eq_false_iff_not, HF.out]
          rintro ⟨_, h2, _⟩
          exact h2 ⟨z, List.mem_of_getElem? HZK.out, by simp [badN, h1]⟩
        go_wp2
        go_ret
        exact ⟨rfl, below_alloc _⟩
      · have h1' : decide (z < 1) = false := decide_eq_false h1
        by_cases h2 : 1000 < z
        · obtain rfl : r = false := by
            rw [HR.out, decide_eq_false_iff_not, HF.out]
            rintro ⟨_, h3, _⟩
            exact h3 ⟨z, List.mem_of_getElem? HZK.out, by simp [badN, h2]⟩
          clear h1
          go_wp2
          go_ret
          exact ⟨rfl, below_alloc _⟩
        · have h2' : decide (1000 < z) = false := decide_eq_false h2
          have HO2 : Hid (∀ y ∈ need.take (k + 1), badN y = false) := Lib.hid (fun y hy => by
            rw [take_snoc' HZK.out, List.mem_append, List.mem_singleton] at hy
            rcases hy with hy | rfl
            · exact HO.out y hy
            · simp [badN, h1', h2'])
          clear h1 h2
          go_wp2
          go_roundw
          case rel => exact ⟨k + 1, by omega, by go_num, (by first | trivial | rfl), HO2⟩
          case measure => simp [intOf]; omega
    · obtain rfl : k = nn := by omega
      have HB : Hid (¬ ∃ z ∈ need, badN z = true) := Lib.hid (by
        rintro ⟨z, hz, hb⟩
        rw [HO.out z (by rw [List.take_of_length_le (by rw [HN.out]; omega)]; exact hz)] at hb
        cases hb)
      by_cases h1 : k = n
      · subst h1
        by_cases h2 : 1 ≤ cores
        · obtain rfl : r = decide (cores ≤ 8) := by
            rw [HR.out, Bool.eq_iff_iff, decide_eq_true_iff, decide_eq_true_iff, HF.out]
            exact ⟨fun q => q.2.2.2, fun q => ⟨by first | rfl | trivial, HB.out, h2, q⟩⟩
          go_wp2
          go_ret
          exact ⟨rfl, below_alloc _⟩
        · obtain rfl : r = false := by
            rw [HR.out, decide_eq_false_iff_not, HF.out]
            exact fun q => h2 q.2.2.1
          have h2' : decide (1 ≤ cores) = false := decide_eq_false h2
          clear h2
          go_wp2
          go_ret
          exact ⟨rfl, below_alloc _⟩
      · obtain rfl : r = false := by
          rw [HR.out, decide_eq_false_iff_not, HF.out]
          exact fun q => h1 q.1
        have h1' : ((k : Int) == (n : Int)) = false := by simpa using (fun q : (k : Int) = (n : Int) => h1 (by omega))
        clear h1
        go_wp2
        go_ret
        exact ⟨rfl, below_alloc _⟩
/-- A schedule and needs of these sizes at most. -/
def FewS (need : List Int) (t : List (List Int)) : Prop := need.length ≤ 70 ∧ t.length ≤ 120 ∧ ∀ r ∈ t, r.length ≤ 12
end
end Go.Proofs.YtmmogdccjiagnaaDoor
set_option linter.unusedVariables false
namespace Go.Proofs.YtmmogdccjiagnaaDoor
open Go.RowKit

section
variable {A : Option Addr} {n c : Nat} {F : Option Addr} {m d : Nat} {W : List Int} {E : List (Int × Int)} {N : Option Addr} {nn nc : Nat} {need : List Int} {T : Option Addr} {tn tc : Nat} {t : List (List Int)}
theorem own_g10 {w : World} (h : IsG w A n c F m d W E) :
    Calls Tryd.prog 12 #[.agg #[.slice A n c, .slice F m d]] w fun e w' => ∃ A' c' F' d', e = .returned (.agg #[.slice A' n c', .slice F' m d']) ∧ IsG w' A' n c' F' m d' W E ∧ Below w.heap.size w w' := by
  refine (own_any A F n c m d W E w h.hn (by have := h.ln; omega) h.hm (by have := h.lm; omega) h.ints h.pairs h.hA h.hF).mono ?_
  rintro e w' ⟨u, v, rfl, hu, hv, b⟩
  obtain ⟨A', c', F', d', rfl, rfl, hg⟩ := own_isG (h.tab.via b) hu hv (by rw [h.hn]; exact h.ln) (by rw [h.hm]; exact h.lm)
  rw [h.hn, h.hm] at hg ⊢
  exact ⟨A', c', F', d', rfl, hg, b⟩
/-- A graph as a row gives it: of any length. -/
structure InG (w : World) (A : Option Addr) (n c : Nat) (F : Option Addr) (m d : Nat) (W : List Int) (E : List (Int × Int)) : Prop where
  hn : W.length = n
  hm : E.length = m
  ln : n ≤ 9223372036854775807
  lm : m ≤ 9223372036854775807
  ints : Ints w w.heap.size A W
  pairs : Pairs w w.heap.size F E
  hA : A = none → n = 0 ∧ c = 0
  hF : F = none → m = 0 ∧ d = 0
theorem InG.isG {w : World} (hT : Tab64 w) (h : InG w A n c F m d W E) (hn : n ≤ 70) (hm : m ≤ 300) : IsG w A n c F m d W E := ⟨h.hn, h.hm, by omega, by omega, h.ints, h.pairs, h.hA, h.hF, hT⟩
/-- Needs and a schedule as a row gives them. -/
structure InS (w : World) (N : Option Addr) (nn nc : Nat) (T : Option Addr) (tn tc : Nat) (need : List Int) (t : List (List Int)) : Prop where
  hn : need.length = nn
  ht : t.length = tn
  ln : nn ≤ 9223372036854775807
  lt : tn ≤ 9223372036854775807
  lr : ∀ r ∈ t, r.length ≤ 9223372036854775807
  ints : Ints w w.heap.size N need
  rows : Trc w w.heap.size T t
  hN : N = none → nn = 0 ∧ nc = 0
  hT : T = none → tn = 0 ∧ tc = 0
  cT : tn ≤ tc
theorem InS.isS {w : World} (h : InS w N nn nc T tn tc need t) (hf : FewS need t) : IsS w N nn nc T tn tc need t :=
  ⟨h.hn, h.ht, by have := hf.1; have := h.hn; omega, by have := hf.2.1; have := h.ht; omega, fun r hr => by have := hf.2.2 r hr; omega, h.ints, h.rows, h.hN, h.hT⟩
theorem mkS {w0 w : World} (h : IsS w0 N nn nc T tn tc need t) {N' T' : Option Addr} {nc' tc' : Nat} (hI : Ints w w.heap.size N' need) (hN : N' = none → nn = 0 ∧ nc' = 0) (hT : Trc w w.heap.size T' t) (hT' : T' = none → tn = 0 ∧ tc' = 0) : IsS w N' nn nc' T' tn tc' need t :=
  ⟨h.hn, h.ht, h.ln, h.lt, h.lr, hI, hT, hN, hT'⟩
theorem IsS.taken {w : World} (h : IsS w N nn nc T tn tc need t) {k : Nat} (hk : k ≤ tn) : IsS w N nn nc T k tc need (t.take k) ∨ (T = none ∧ k = 0) := by
  by_cases hT : T = none
  · exact .inr ⟨hT, by have := (h.hT hT).1; omega⟩
  · exact .inl ⟨h.hn, by rw [List.length_take, h.ht]; omega, h.ln, by have := h.lt; omega, fun r hr => h.lr r (List.mem_of_mem_take hr), h.ints, h.rows.take k, h.hN, fun e => absurd e hT⟩
end
end Go.Proofs.YtmmogdccjiagnaaDoor
set_option linter.unusedVariables false
namespace Go.Proofs.YtmmogdccjiagnaaDoor

/-- How much is left of a node. -/
def leftC (L : List Int) (x : Int) : Int := L.getD x.toNat 0
theorem leftC_nat (L : List Int) (x : Nat) : leftC L (x : Int) = L.getD x 0 := by unfold leftC; rw [Int.toNat_natCast]
theorem leftC_mem {L : List Int} {x : Nat} (h : x < L.length) : leftC L (x : Int) ∈ L := by
  rw [leftC_nat, List.getD_eq_getElem?_getD, List.getElem?_eq_getElem h]
  exact List.getElem_mem h
/-- Is all that a node waits for done? -/
def OverC (E : List (Int × Int)) (L : List Int) (x : Int) : Prop := ∀ e ∈ E, e.2 = x → ¬ 0 < leftC L e.1
instance (E : List (Int × Int)) (L : List Int) (x : Int) : Decidable (OverC E L x) := by unfold OverC; infer_instance
/-- A crew of n nodes that may be (of a graph that may be). -/
structure CrewOk (n : Nat) (E : List (Int × Int)) (O L : List Int) : Prop where
  lo : 1 ≤ O.length
  hi : O.length ≤ 8
  ln : L.length = n
  left : ∀ z ∈ L, 0 ≤ z ∧ z ≤ 1000
  done : ∀ x : Nat, x < n → leftC L (x : Int) = 0 → OverC E L (x : Int)
  on : ∀ x ∈ O, x = -1 ∨ ((0 ≤ x ∧ x < n) ∧ leftC L x ≠ 0 ∧ OverC E L x)
  once : ∀ x, x ≠ -1 → O.count x ≤ 1
/-- A node that is ready. -/
def ReadyC (E : List (Int × Int)) (O L : List Int) (x : Nat) : Prop := 0 < leftC L (x : Int) ∧ (x : Int) ∉ O ∧ OverC E L (x : Int)
instance (E : List (Int × Int)) (O L : List Int) (x : Nat) : Decidable (ReadyC E O L x) := by unfold ReadyC; infer_instance
def readyU (n : Nat) (E : List (Int × Int)) (O L : List Int) : List Nat := (List.range n).filter fun x => decide (ReadyC E O L x)
theorem mem_readyU {n : Nat} {E : List (Int × Int)} {O L : List Int} {x : Nat} : x ∈ readyU n E O L ↔ x < n ∧ ReadyC E O L x := by
  unfold readyU; rw [List.mem_filter, List.mem_range, decide_eq_true_iff]
/-- One core is filled; the cores below k are. -/
def fillOne (n : Nat) (E : List (Int × Int)) (L O : List Int) (i : Nat) : List Int :=
  if O.getD i 0 = -1 then match readyU n E O L with
    | [] => O
    | x :: _ => O.set i (x : Int)
  else O
def fillK (n : Nat) (E : List (Int × Int)) (L O : List Int) : Nat → List Int
  | 0 => O
  | k + 1 => fillOne n E L (fillK n E L O k) k
def fillC (n : Nat) (E : List (Int × Int)) (L O : List Int) : List Int := fillK n E L O O.length
/-- A tick. -/
def leftT (O L : List Int) : List Int := (List.range L.length).map fun (x : Nat) => leftC L (x : Int) - if (x : Int) ∈ O then 1 else 0
def onT (O L : List Int) : List Int := O.map fun x => if x ≠ -1 ∧ leftC L x = 1 then -1 else x
def doneT (O L : List Int) : List Nat := (List.range L.length).filter fun x => decide ((x : Int) ∈ O ∧ leftC L (x : Int) = 1)

section
variable {n : Nat} {E : List (Int × Int)} {O L : List Int}
theorem CrewOk.pos (h : CrewOk n E O L) {x : Int} (h0 : 0 ≤ x) (hx : x < n) : 0 ≤ leftC L x ∧ leftC L x ≤ 1000 := by
  obtain ⟨m, rfl⟩ : ∃ m : Nat, x = m := ⟨x.toNat, by omega⟩
  exact h.left _ (leftC_mem (by rw [h.ln]; omega))
theorem mem_set_ready {i x : Nat} {y : Int} (h : y ∈ O.set i (x : Int)) : y ∈ O ∨ y = x := List.mem_or_eq_of_mem_set h
theorem fillOne_cases (n : Nat) (E : List (Int × Int)) (L O : List Int) (i : Nat) : fillOne n E L O i = O ∨ ∃ x r, O.getD i 0 = -1 ∧ readyU n E O L = x :: r ∧ fillOne n E L O i = O.set i (x : Int) := by
  unfold fillOne
  split
  · next h =>
    split
    · exact .inl rfl
    · next x r hr => exact .inr ⟨x, r, h, hr, rfl⟩
  · exact .inl rfl
theorem fillOne_len (n : Nat) (E : List (Int × Int)) (L O : List Int) (i : Nat) : (fillOne n E L O i).length = O.length := by
  rcases fillOne_cases n E L O i with h | ⟨x, r, _, _, h⟩ <;> rw [h]
  exact List.length_set
theorem fillK_len (n : Nat) (E : List (Int × Int)) (L O : List Int) : ∀ k, (fillK n E L O k).length = O.length
  | 0 => rfl
  | k + 1 => by show (fillOne n E L (fillK n E L O k) k).length = _; rw [fillOne_len, fillK_len n E L O k]
theorem getD_set_self {l : List Int} {i : Nat} (h : i < l.length) (z d : Int) : (l.set i z).getD i d = z := by
  rw [List.getD_eq_getElem?_getD, List.getElem?_set_self h]; rfl
theorem getD_set_ne {l : List Int} {i j : Nat} (h : i ≠ j) (z d : Int) : (l.set i z).getD j d = l.getD j d := by
  rw [List.getD_eq_getElem?_getD, List.getElem?_set_ne h, ← List.getD_eq_getElem?_getD]
/-- A core that has a node keeps it. -/
theorem fillOne_keep {i j : Nat} (h : O.getD j 0 ≠ -1) : (fillOne n E L O i).getD j 0 = O.getD j 0 := by
  rcases fillOne_cases n E L O i with e | ⟨x, r, h0, _, e⟩ <;> rw [e]
  exact getD_set_ne (fun e => h (by rw [← e]; exact h0)) _ _
theorem fillK_keep {j : Nat} (h : O.getD j 0 ≠ -1) : ∀ k, (fillK n E L O k).getD j 0 = O.getD j 0
  | 0 => rfl
  | k + 1 => by
    have ih := fillK_keep h k
    show (fillOne n E L (fillK n E L O k) k).getD j 0 = _
    rw [fillOne_keep (by rw [ih]; exact h), ih]
/-- Cores that aren't looked at yet are as they were. -/
theorem fillK_later {j : Nat} : ∀ k, k ≤ j → (fillK n E L O k).getD j 0 = O.getD j 0
  | 0, _ => rfl
  | k + 1, h => by
    have ih := fillK_later (j := j) k (by omega)
    show (fillOne n E L (fillK n E L O k) k).getD j 0 = _
    rcases fillOne_cases n E L (fillK n E L O k) k with e | ⟨x, r, h0, _, e⟩ <;> rw [e]
    · exact ih
    · rw [getD_set_ne (by omega)]; exact ih
theorem readyU_head {x : Nat} {r : List Nat} (h : readyU n E O L = x :: r) : x < n ∧ ReadyC E O L x := mem_readyU.mp (by rw [h]; exact List.mem_cons_self)
theorem CrewOk.fillOne (h : CrewOk n E O L) {i : Nat} (hi : i < O.length) : CrewOk n E (fillOne n E L O i) L := by
  rcases fillOne_cases n E L O i with e | ⟨x, r, h0, hr, e⟩ <;> rw [e]
  · exact h
  · obtain ⟨hx, r1, r2, r3⟩ := readyU_head hr
    refine ⟨by rw [List.length_set]; exact h.lo, by rw [List.length_set]; exact h.hi, h.ln, h.left, h.done, fun y hy => ?_, fun y hy => ?_⟩
    · rcases mem_set_ready hy with hy | rfl
      · exact h.on y hy
      · exact .inr ⟨⟨by omega, by omega⟩, by omega, r3⟩
    · rw [List.count_set hi]
      have h1 := h.once y hy
      by_cases hxy : (x : Int) = y
      · have h2 : O.count y = 0 := List.count_eq_zero.mpr (by rw [← hxy]; exact r2)
        rw [h2]
        split <;> split <;> omega
      · have h3 : ((x : Int) == y) = false := by simpa using hxy
        rw [h3]
        simp only [Bool.false_eq_true, if_false]
        omega
theorem CrewOk.fillK (h : CrewOk n E O L) : ∀ k, k ≤ O.length → CrewOk n E (fillK n E L O k) L
  | 0, _ => h
  | k + 1, hk => (CrewOk.fillK h k (by omega)).fillOne (by rw [fillK_len]; omega)
theorem CrewOk.fill (h : CrewOk n E O L) : CrewOk n E (fillC n E L O) L := h.fillK _ (Nat.le_refl _)
theorem fillC_len (n : Nat) (E : List (Int × Int)) (L O : List Int) : (fillC n E L O).length = O.length := fillK_len n E L O _
/-- Who stands on a core stood there, or was ready. -/
theorem fillK_mem : ∀ k {x : Int}, x ∈ fillK n E L O k → x ∈ O ∨ ∃ m : Nat, x = m ∧ m < n ∧ ReadyC E O L m
  | 0, x, h => .inl h
  | k + 1, x, h => by
    have h' : x ∈ fillOne n E L (fillK n E L O k) k := h
    rcases fillOne_cases n E L (fillK n E L O k) k with e | ⟨m, r, h0, hr, e⟩ <;> rw [e] at h'
    · exact fillK_mem k h'
    · rcases mem_set_ready h' with h2 | rfl
      · exact fillK_mem k h2
      · obtain ⟨hm, r1, r2, r3⟩ := readyU_head hr
        refine .inr ⟨m, rfl, hm, r1, fun hO => r2 ?_, r3⟩
        obtain ⟨j, hj, he⟩ := List.getElem_of_mem hO
        have h3 : O.getD j 0 = (m : Int) := by rw [List.getD_eq_getElem?_getD, List.getElem?_eq_getElem hj]; exact he
        have h4 := fillK_keep (n := n) (E := E) (L := L) (O := O) (j := j) (by omega) k
        have h5 : j < (fillK n E L O k).length := by rw [fillK_len]; exact hj
        rw [List.getD_eq_getElem?_getD, List.getElem?_eq_getElem h5] at h4
        have h6 : (fillK n E L O k)[j] = (m : Int) := by rw [← h3]; exact h4
        rw [← h6]
        exact List.getElem_mem h5
theorem mem_keep {k : Nat} {x : Int} (hx : x ≠ -1) (h : x ∈ O) : x ∈ fillK n E L O k := by
  obtain ⟨j, hj, he⟩ := List.getElem_of_mem h
  have h3 : O.getD j 0 = x := by rw [List.getD_eq_getElem?_getD, List.getElem?_eq_getElem hj]; exact he
  have h4 := fillK_keep (n := n) (E := E) (L := L) (O := O) (j := j) (by rw [h3]; exact hx) k
  have h5 : j < (fillK n E L O k).length := by rw [fillK_len]; exact hj
  rw [List.getD_eq_getElem?_getD, List.getElem?_eq_getElem h5] at h4
  have h6 : (fillK n E L O k)[j] = x := by rw [← h3]; exact h4
  rw [← h6]
  exact List.getElem_mem h5
/-- Nothing is ready, or the cores looked at are at work. -/
theorem fillK_full : ∀ k, k ≤ O.length → readyU n E (fillK n E L O k) L = [] ∨ ∀ j, j < k → (fillK n E L O k).getD j 0 ≠ -1
  | 0, _ => .inr fun j hj => absurd hj (by omega)
  | k + 1, hk => by
    have hl : k < (fillK n E L O k).length := by rw [fillK_len]; omega
    show readyU n E (fillOne n E L (fillK n E L O k) k) L = [] ∨ ∀ j, j < k + 1 → (fillOne n E L (fillK n E L O k) k).getD j 0 ≠ -1
    rcases fillK_full k (by omega) with h | h
    · left
      have : fillOne n E L (fillK n E L O k) k = fillK n E L O k := by unfold fillOne; rw [h]; split <;> rfl
      rw [this]; exact h
    · rcases fillOne_cases n E L (fillK n E L O k) k with e | ⟨x, r, h0, hr, e⟩
      · by_cases h1 : (fillK n E L O k).getD k 0 = -1
        · left
          rw [e]
          cases hr : readyU n E (fillK n E L O k) L with
          | nil => rfl
          | cons x r =>
            exfalso
            have h2 : fillOne n E L (fillK n E L O k) k = (fillK n E L O k).set k (x : Int) := by unfold fillOne; rw [if_pos h1, hr]
            rw [e] at h2
            have h3 := getD_set_self hl (x : Int) 0
            rw [← h2, h1] at h3
            omega
        · right
          intro j hj
          rw [e]
          rcases Nat.lt_or_ge j k with h2 | h2
          · exact h j h2
          · obtain rfl : j = k := by omega
            exact h1
      · right
        intro j hj
        rw [e]
        rcases Nat.lt_or_ge j k with h2 | h2
        · rw [getD_set_ne (by omega)]; exact h j h2
        · obtain rfl : j = k := by omega
          rw [getD_set_self hl]; omega
theorem not_idle {l : List Int} (h : ∀ j, j < l.length → l.getD j 0 ≠ -1) : (-1) ∉ l := fun hm => by
  obtain ⟨j, hj, he⟩ := List.getElem_of_mem hm
  refine h j hj ?_
  rw [List.getD_eq_getElem?_getD, List.getElem?_eq_getElem hj]
  exact he
theorem fillC_full : readyU n E (fillC n E L O) L = [] ∨ (-1) ∉ fillC n E L O := by
  rcases fillK_full (n := n) (E := E) (L := L) (O := O) O.length (Nat.le_refl _) with h | h
  · exact .inl h
  · exact .inr (not_idle fun j hj => h j (by rw [fillC_len] at hj; exact hj))
theorem fillOne_still {i : Nat} (hi : i < O.length) (h : readyU n E O L = [] ∨ (-1) ∉ O) : fillOne n E L O i = O := by
  unfold fillOne
  split
  · next h0 =>
    rcases h with h | h
    · rw [h]
    · exfalso
      apply h
      rw [← h0, List.getD_eq_getElem?_getD, List.getElem?_eq_getElem hi]
      exact List.getElem_mem hi
  · rfl
/-- Filled again it is as it was. -/
theorem fillC_again (h : readyU n E O L = [] ∨ (-1) ∉ O) : fillC n E L O = O := by
  have key : ∀ k, k ≤ O.length → fillK n E L O k = O := by
    intro k
    induction k with
    | zero => exact fun _ => rfl
    | succ k ih =>
      intro hk
      show fillOne n E L (fillK n E L O k) k = O
      rw [ih (by omega), fillOne_still (by omega) h]
  exact key _ (Nat.le_refl _)

/-! A tick -/
theorem leftT_len (O L : List Int) : (leftT O L).length = L.length := by simp [leftT]
theorem leftT_at {x : Nat} (h : x < L.length) : leftC (leftT O L) (x : Int) = leftC L (x : Int) - if (x : Int) ∈ O then 1 else 0 := by
  rw [leftC_nat, List.getD_eq_getElem?_getD, leftT, List.getElem?_map, List.getElem?_range h]
  rfl
theorem onT_len (O L : List Int) : (onT O L).length = O.length := by simp [onT]
theorem onT_at {i : Nat} (h : i < O.length) : (onT O L).getD i 0 = if O.getD i 0 ≠ -1 ∧ leftC L (O.getD i 0) = 1 then -1 else O.getD i 0 := by
  unfold onT
  rw [List.getD_eq_getElem?_getD, List.getElem?_map, List.getD_eq_getElem?_getD, List.getElem?_eq_getElem h]
  rfl
theorem mem_onT {x : Int} (hx : x ≠ -1) : x ∈ onT O L ↔ x ∈ O ∧ leftC L x ≠ 1 := by
  unfold onT
  rw [List.mem_map]
  constructor
  · rintro ⟨y, hy, he⟩
    by_cases h : y ≠ -1 ∧ leftC L y = 1
    · rw [if_pos h] at he; exact absurd he.symm hx
    · rw [if_neg h] at he
      subst he
      exact ⟨hy, fun h1 => h ⟨hx, h1⟩⟩
  · rintro ⟨h1, h2⟩
    exact ⟨x, h1, if_neg fun h => h2 h.2⟩
theorem mem_doneT {x : Nat} : x ∈ doneT O L ↔ x < L.length ∧ (x : Int) ∈ O ∧ leftC L (x : Int) = 1 := by
  unfold doneT; rw [List.mem_filter, List.mem_range, decide_eq_true_iff]
theorem count_map_le {f : Int → Int} {x : Int} (h : ∀ y, f y = x → y = x) : ∀ l : List Int, (l.map f).count x ≤ l.count x
  | [] => by simp
  | y :: l => by
    have ih := count_map_le h l
    rw [List.map_cons, List.count_cons, List.count_cons]
    by_cases hy : f y = x
    · have := h y hy
      subst this
      simp only [hy, beq_self_eq_true, if_true]
      omega
    · have : (f y == x) = false := by simpa using hy
      rw [this]
      simp only [Bool.false_eq_true, if_false]
      split <;> omega
theorem OverC.mono {L' : List Int} {x : Int} (h : OverC E L x) (hF : Fits n E) (hl : ∀ m : Nat, m < n → leftC L' (m : Int) ≤ leftC L (m : Int)) : OverC E L' x := fun e he e2 hp => by
  obtain ⟨h1, h2, _, _⟩ := hF e he
  obtain ⟨m, hm⟩ : ∃ m : Nat, e.1 = m := ⟨e.1.toNat, by omega⟩
  have h3 := hl m (by omega)
  have h4 := h e he e2
  rw [hm] at hp h4
  omega
theorem leftT_le {x : Nat} (h : x < L.length) : leftC (leftT O L) (x : Int) ≤ leftC L (x : Int) := by
  rw [leftT_at h]; split <;> omega
theorem CrewOk.tick (h : CrewOk n E O L) (hF : Fits n E) : CrewOk n E (onT O L) (leftT O L) := by
  have hln := h.ln
  have hle : ∀ m : Nat, m < n → leftC (leftT O L) (m : Int) ≤ leftC L (m : Int) := fun m hm => leftT_le (by omega)
  have hon : ∀ x : Nat, (x : Int) ∈ O → x < n ∧ leftC L (x : Int) ≠ 0 ∧ OverC E L (x : Int) := fun x hx => by
    rcases h.on _ hx with h1 | ⟨⟨_, h1⟩, h2, h3⟩
    · omega
    · exact ⟨by omega, h2, h3⟩
  have hpos : ∀ m : Nat, m < n → 0 ≤ leftC L (m : Int) ∧ leftC L (m : Int) ≤ 1000 := fun m hm => h.pos (by omega) (by omega)
  have hleft : ∀ m : Nat, m < n → 0 ≤ leftC (leftT O L) (m : Int) := fun m hm => by
    rw [leftT_at (by omega)]
    split
    · next hmo =>
      have := (hon m hmo).2.1
      have := hpos m hm
      omega
    · have := hpos m hm; omega
  refine ⟨by rw [onT_len]; exact h.lo, by rw [onT_len]; exact h.hi, by rw [leftT_len]; exact h.ln, fun z hz => ?_, fun x hx h0 => ?_, fun x hx => ?_, fun x hx => ?_⟩
  · obtain ⟨m, hm, he⟩ := List.getElem_of_mem hz
    rw [leftT_len] at hm
    have h1 := hleft m (by omega)
    have h2 := hle m (by omega)
    have h3 := hpos m (by omega)
    have h4 : leftC (leftT O L) (m : Int) = z := by
      rw [leftC_nat, List.getD_eq_getElem?_getD, List.getElem?_eq_getElem (by rw [leftT_len]; exact hm)]
      exact he
    omega
  · rw [leftT_at (by omega)] at h0
    by_cases hxo : (x : Int) ∈ O
    · exact ((hon x hxo).2.2).mono hF hle
    · rw [if_neg hxo] at h0
      exact (h.done x hx (by omega)).mono hF hle
  · by_cases hx1 : x = -1
    · exact .inl hx1
    · right
      obtain ⟨h1, h2⟩ := (mem_onT hx1).mp hx
      rcases h.on x h1 with h3 | ⟨⟨h3, h4⟩, h5, h6⟩
      · exact absurd h3 hx1
      · obtain ⟨m, rfl⟩ : ∃ m : Nat, x = m := ⟨x.toNat, by omega⟩
        refine ⟨⟨h3, h4⟩, ?_, h6.mono hF hle⟩
        rw [leftT_at (by omega), if_pos h1]
        omega
  · refine Nat.le_trans (count_map_le (fun y hy => ?_) O) (h.once x hx)
    split at hy
    · exact absurd hy.symm hx
    · exact hy
end
end Go.Proofs.YtmmogdccjiagnaaDoor
