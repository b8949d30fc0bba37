/- slices.IndexFunc and ContainsFunc at integers and at rows, slices.Contains, in the seat YtpaambpajpmjdaaDoor: their contracts.
   sched.rightNeeds, sched.rightRows and sched.preds in the seat YtpaambpajpmjdaaDoor: their contracts.
   No statement is proved here. -/
import Derived.Test.YtpaambpajpmjdaaDoorZM7
import Derived.Test.YtpaambpajpmjdaaDoorZM1
import Derived.Lib.Hide
import Derived.Shelf.Abstract
import Derived.Test.YtpaambpajpmjdaaDoorZM8
import Derived.Test.YtpaambpajpmjdaaDoorZDagDoneG
set_option linter.unusedSimpArgs false
set_option linter.unusedVariables false
namespace Go.Proofs.YtpaambpajpmjdaaDoor
open Go.RowKit

set_option maxHeartbeats 2000000 in
theorem idx_int (A : Option Addr) (c n : Nat) (es : List Int) (g : Nat) (lb : Array Value) (eg : ∀ args w, (callFunc g args).run Tryd.prog w = .ok (.enter g args) w) (p : Nat → Bool) (I : Nat → World → Prop) (B : Nat) (hn : es.length = n) (hl : n ≤ 1000)
    (hT : ∀ k W, I k W → Ints W B A es)
    (hp : ∀ k x W, es[k]? = some x → I k W → Calls Tryd.prog g (#[.int .i64 x] ++ lb) W fun e w' => e = .returned (.bool (p k)) ∧ I (k + 1) w')
    (w : World) (h0 : I 0 w) :
    Calls Tryd.prog 63 #[.slice A n c, .func (.func g) #[] lb] w fun e w' => ∃ r k, e = .returned (.int .i64 r) ∧ I k w' ∧ (0 ≤ r ↔ ∃ j, j < n ∧ p j = true) := by
  have HT := Lib.hid hT
  have HP := Lib.hid hp
  have HN := Lib.hid hn
  have H0 := Lib.hid h0
  clear hT hp hn h0
  go_enter Tryd.func63, Tryd.ntmps63
  go_wp2
  go_loopw [8] (fun v wr => ∃ k : Nat, k ≤ n ∧ v = .int .i64 k ∧ Hid (I k wr) ∧ Hid (∀ j, j < k → p j = false)) (fun v _ => n - (intOf v).toNat)
  case atStart => exact ⟨0, Nat.zero_le _, rfl, H0, Lib.hid (fun j hj => absurd hj (Nat.not_lt_zero _))⟩
  case round =>
    obtain ⟨k, hk, rfl, HI, HF⟩ := hrel
    clear H0
    by_cases hlt : k < n
    · obtain ⟨bk, off, x, rfl, hbg, hek, d1⟩ := (HT.out k wr HI.out).at_ (k := k) (by rw [HN.out]; exact hlt)
      have HEK := Lib.hid hek
      have hcall := HP.out k x wr hek  HI.out
      clear hek 
      skip
      cases hq : p k with
      | true =>
        have HQ := Lib.hid hq
        rw [hq] at hcall
        clear hq
        go_wp2_with (go_at_fn g; refine hcall.mono ?_; rintro e w' ⟨rfl, hb'⟩)
        go_ret
        exact ⟨_, k + 1, rfl, hb', ⟨fun _ => ⟨k, hlt, HQ.out⟩, fun _ => by omega⟩⟩
      | false =>
        have HQ := Lib.hid hq
        rw [hq] at hcall
        clear hq
        go_wp2_with (go_at_fn g; refine hcall.mono ?_; rintro e w' ⟨rfl, hb'⟩; have HB := Lib.hid hb'; clear hb')
        go_roundw
        case rel => exact ⟨k + 1, by omega, by go_num, HB, Lib.hid (fun j hj => by
          by_cases e : j = k
          · rw [e]; exact HQ.out
          · exact HF.out j (by omega))⟩
        case measure => simp [intOf]; omega
    · have e : k = n := by omega
      subst e
      go_wp2
      go_ret
      exact ⟨_, k, rfl, HI.out, ⟨fun h => absurd h (by decide), fun ⟨j, hj, hpj⟩ => by rw [HF.out j hj] at hpj; cases hpj⟩⟩
set_option maxHeartbeats 2000000 in
theorem has_int (A : Option Addr) (c n : Nat) (es : List Int) (g : Nat) (lb : Array Value) (eg : ∀ args w, (callFunc g args).run Tryd.prog w = .ok (.enter g args) w) (p : Nat → Bool) (I : Nat → World → Prop) (B : Nat) (hn : es.length = n) (hl : n ≤ 1000)
    (hT : ∀ k W, I k W → Ints W B A es)
    (hp : ∀ k x W, es[k]? = some x → I k W → Calls Tryd.prog g (#[.int .i64 x] ++ lb) W fun e w' => e = .returned (.bool (p k)) ∧ I (k + 1) w')
    (r : Bool) (hr : r = true ↔ ∃ j, j < n ∧ p j = true) (w : World) (h0 : I 0 w) :
    Calls Tryd.prog 52 #[.slice A n c, .func (.func g) #[] lb] w fun e w' => e = .returned (.bool r) ∧ ∃ k, I k w' := by
  have C := idx_int A c n es g lb eg p I B hn hl hT hp w h0
  have HR := Lib.hid hr
  clear hT hp hn h0 hr
  go_enter Tryd.func52, Tryd.ntmps52
  go_wp2_with fail
  refine C.mono ?_
  rintro e w1 ⟨v, k, rfl, hI, hv⟩
  have HI := Lib.hid hI
  have HV := Lib.hid hv
  clear hI hv
  cases r with
  | true =>
    have hg : 0 ≤ v := HV.out.mpr (HR.out.mp rfl)
    go_wp2
    go_ret
    exact ⟨rfl, k, HI.out⟩
  | false =>
    have hg : decide (0 ≤ v) = false := by
      rw [decide_eq_false_iff_not]
      exact fun h => absurd (HR.out.mpr (HV.out.mp h)) (by simp)
    go_wp2
    go_ret
    exact ⟨rfl, k, HI.out⟩

set_option maxHeartbeats 2000000 in
theorem idx_row (A : Option Addr) (c n : Nat) (es : List (List Int)) (g : Nat) (lb : Array Value) (eg : ∀ args w, (callFunc g args).run Tryd.prog w = .ok (.enter g args) w) (p : Nat → Bool) (I : Nat → World → Prop) (B : Nat) (hn : es.length = n) (hl : n ≤ 1000)
    (hT : ∀ k W, I k W → Trc W B A es)
    (hp : ∀ k xs A1 n1 c1 W, es[k]? = some xs → xs.length = n1 → Ints W B A1 xs → ((A1 = none → n1 = 0 ∧ c1 = 0) ∧ n1 ≤ c1) → I k W → Calls Tryd.prog g (#[.slice A1 n1 c1] ++ lb) W fun e w' => e = .returned (.bool (p k)) ∧ I (k + 1) w')
    (w : World) (h0 : I 0 w) :
    Calls Tryd.prog 64 #[.slice A n c, .func (.func g) #[] lb] w fun e w' => ∃ r k, e = .returned (.int .i64 r) ∧ I k w' ∧ (0 ≤ r ↔ ∃ j, j < n ∧ p j = true) := by
  have HT := Lib.hid hT
  have HP := Lib.hid hp
  have HN := Lib.hid hn
  have H0 := Lib.hid h0
  clear hT hp hn h0
  go_enter Tryd.func64, Tryd.ntmps64
  go_wp2
  go_loopw [8] (fun v wr => ∃ k : Nat, k ≤ n ∧ v = .int .i64 k ∧ Hid (I k wr) ∧ Hid (∀ j, j < k → p j = false)) (fun v _ => n - (intOf v).toNat)
  case atStart => exact ⟨0, Nat.zero_le _, rfl, H0, Lib.hid (fun j hj => absurd hj (Nat.not_lt_zero _))⟩
  case round =>
    obtain ⟨k, hk, rfl, HI, HF⟩ := hrel
    clear H0
    by_cases hlt : k < n
    · obtain ⟨bk, off, xs, A1, n1, c1, rfl, hbg, hek, hn1, d1, hxs, hz1⟩ := (HT.out k wr HI.out).at_ (k := k) (by rw [HN.out]; exact hlt)
      have HEK := Lib.hid hek
      have hcall := HP.out k xs A1 n1 c1 wr hek hn1 hxs hz1 HI.out
      clear hek hn1 hxs hz1
      skip
      cases hq : p k with
      | true =>
        have HQ := Lib.hid hq
        rw [hq] at hcall
        clear hq
        go_wp2_with (go_at_fn g; refine hcall.mono ?_; rintro e w' ⟨rfl, hb'⟩)
        go_ret
        exact ⟨_, k + 1, rfl, hb', ⟨fun _ => ⟨k, hlt, HQ.out⟩, fun _ => by omega⟩⟩
      | false =>
        have HQ := Lib.hid hq
        rw [hq] at hcall
        clear hq
        go_wp2_with (go_at_fn g; refine hcall.mono ?_; rintro e w' ⟨rfl, hb'⟩; have HB := Lib.hid hb'; clear hb')
        go_roundw
        case rel => exact ⟨k + 1, by omega, by go_num, HB, Lib.hid (fun j hj => by
          by_cases e : j = k
          · rw [e]; exact HQ.out
          · exact HF.out j (by omega))⟩
        case measure => simp [intOf]; omega
    · have e : k = n := by omega
      subst e
      go_wp2
      go_ret
      exact ⟨_, k, rfl, HI.out, ⟨fun h => absurd h (by decide), fun ⟨j, hj, hpj⟩ => by rw [HF.out j hj] at hpj; cases hpj⟩⟩
set_option maxHeartbeats 2000000 in
theorem has_row (A : Option Addr) (c n : Nat) (es : List (List Int)) (g : Nat) (lb : Array Value) (eg : ∀ args w, (callFunc g args).run Tryd.prog w = .ok (.enter g args) w) (p : Nat → Bool) (I : Nat → World → Prop) (B : Nat) (hn : es.length = n) (hl : n ≤ 1000)
    (hT : ∀ k W, I k W → Trc W B A es)
    (hp : ∀ k xs A1 n1 c1 W, es[k]? = some xs → xs.length = n1 → Ints W B A1 xs → ((A1 = none → n1 = 0 ∧ c1 = 0) ∧ n1 ≤ c1) → I k W → Calls Tryd.prog g (#[.slice A1 n1 c1] ++ lb) W fun e w' => e = .returned (.bool (p k)) ∧ I (k + 1) w')
    (r : Bool) (hr : r = true ↔ ∃ j, j < n ∧ p j = true) (w : World) (h0 : I 0 w) :
    Calls Tryd.prog 54 #[.slice A n c, .func (.func g) #[] lb] w fun e w' => e = .returned (.bool r) ∧ ∃ k, I k w' := by
  have C := idx_row A c n es g lb eg p I B hn hl hT hp w h0
  have HR := Lib.hid hr
  clear hT hp hn h0 hr
  go_enter Tryd.func54, Tryd.ntmps54
  go_wp2_with fail
  refine C.mono ?_
  rintro e w1 ⟨v, k, rfl, hI, hv⟩
  have HI := Lib.hid hI
  have HV := Lib.hid hv
  clear hI hv
  cases r with
  | true =>
    have hg : 0 ≤ v := HV.out.mpr (HR.out.mp rfl)
    go_wp2
    go_ret
    exact ⟨rfl, k, HI.out⟩
  | false =>
    have hg : decide (0 ≤ v) = false := by
      rw [decide_eq_false_iff_not]
      exact fun h => absurd (HR.out.mpr (HV.out.mp h)) (by simp)
    go_wp2
    go_ret
    exact ⟨rfl, k, HI.out⟩


set_option maxHeartbeats 2000000 in
theorem index_any (A : Option Addr) (c n : Nat) (zs : List Int) (x : Int) (B : Nat) (w : World) (hn : zs.length = n) (hl : n ≤ 1000) (hI : Ints w B A zs) :
    Calls Tryd.prog 57 #[.slice A n c, .int .i64 x] w fun e w' => ∃ r, e = .returned (.int .i64 r) ∧ (0 ≤ r ↔ x ∈ zs) ∧ w' = w := by
  have HI := Lib.hid hI
  have HN := Lib.hid hn
  clear hn hI
  go_enter Tryd.func57, Tryd.ntmps57
  go_wp2
  go_loop [8] (fun v => ∃ k : Nat, k ≤ n ∧ v = .int .i64 k ∧ Hid (x ∉ zs.take k)) (fun v => n - (intOf v).toNat)
  case atStart => exact ⟨0, Nat.zero_le _, rfl, Lib.hid (by simp)⟩
  case round =>
    obtain ⟨k, hk, rfl, HF⟩ := hrel
    by_cases hlt : k < n
    · obtain ⟨bk, off, z, rfl, hbg, hek, d1⟩ := HI.out.at_ (k := k) (by rw [HN.out]; exact hlt)
      have HEK := Lib.hid hek
      clear hek
      by_cases hq : x = z
      · subst hq
        go_wp2
        go_ret
        exact ⟨_, rfl, ⟨fun _ => List.mem_of_getElem? HEK.out, fun _ => by omega⟩, rfl⟩
      · have hqf : (x == z) = false := by simpa using hq
        have HQ := Lib.hid hq
        clear hq
        go_wp2
        go_round
        case rel => exact ⟨k + 1, by omega, by go_num, Lib.hid (fun hm => by
          rw [take_snoc' HEK.out, List.mem_append, List.mem_singleton] at hm
          rcases hm with hm | hm
          · exact HF.out hm
          · exact HQ.out hm)⟩
        case measure => simp [intOf]; omega
    · have e : k = n := by omega
      subst e
      have HT := HF.out
      rw [List.take_of_length_le (by rw [HN.out]; omega)] at HT
      have HT' := Lib.hid HT
      clear HT
      go_wp2
      go_ret
      exact ⟨_, rfl, ⟨fun h => absurd h (by decide), fun h => absurd h HT'.out⟩, rfl⟩
theorem contains_any (A : Option Addr) (c n : Nat) (zs : List Int) (x : Int) (B : Nat) (w : World) (hn : zs.length = n) (hl : n ≤ 1000) (hI : Ints w B A zs) :
    Calls Tryd.prog 39 #[.slice A n c, .int .i64 x] w fun e w' => e = .returned (.bool (decide (x ∈ zs))) ∧ w' = w := by
  have C := Lib.hid (index_any A c n zs x B w hn hl hI)
  obtain ⟨b, hb⟩ : ∃ b, b = decide (x ∈ zs) := ⟨_, rfl⟩
  rw [← hb]
  have HBB := Lib.hid hb
  clear hn hI hb
  go_enter Tryd.func39, Tryd.ntmps39
  go_wp2_with fail
  refine C.out.mono ?_
  rintro e w1 ⟨r, rfl, hr, rfl⟩
  have HR := Lib.hid hr
  clear hr
  by_cases h : 0 ≤ r
  · obtain rfl : b = true := HBB.out.trans (decide_eq_true (HR.out.mp h))
    go_wp2
    go_ret
    exact ⟨rfl, rfl⟩
  · obtain rfl : b = false := HBB.out.trans (decide_eq_false (fun q => h (HR.out.mpr q)))
    have hg : decide (0 ≤ r) = false := decide_eq_false h
    clear h
    go_wp2
    go_ret
    exact ⟨rfl, rfl⟩
end Go.Proofs.YtpaambpajpmjdaaDoor
set_option linter.unusedVariables false
namespace Go.Proofs.YtpaambpajpmjdaaDoor
open Go.RowKit

/-- Needs and cores may be. -/
def FormOk (W need : List Int) (cores : Int) : Prop := need.length = W.length ∧ (∀ z ∈ need, 1 ≤ z ∧ z ≤ 1000) ∧ 1 ≤ cores ∧ cores ≤ 8
instance (W need : List Int) (cores : Int) : Decidable (FormOk W need cores) := by unfold FormOk; infer_instance
def badN (z : Int) : Bool := decide (z < 1) || decide (1000 < z)
theorem badN_any (z : Int) (w : World) : Calls Tryd.prog 51 #[.int .i64 z] w fun e w' => e = .returned (.bool (badN z)) ∧ w' = w := by
  unfold badN
  go_enter Tryd.func51, Tryd.ntmps51
  go_wp2
  all_goals
    go_ret
    refine ⟨?_, rfl⟩
    first | rfl | simp
theorem rowsBad_any (cores : Int) (A1 : Option Addr) (n1 c1 gc : Nat) (w : World) (h : w.cell? ⟨gc, 0, none⟩ = some (.int .i64 cores)) :
    Calls Tryd.prog 53 #[.slice A1 n1 c1, .pointer (some ⟨gc, 0, none⟩)] w fun e w' => e = .returned (.bool ((n1 : Int) != cores)) ∧ w' = w := by
  go_enter Tryd.func53, Tryd.ntmps53
  go_wp2
  go_ret
  exact ⟨rfl, rfl⟩
section
variable {A : Option Addr} {n c : Nat} {F : Option Addr} {m d : Nat} {W : List Int} {E : List (Int × Int)} {N : Option Addr} {nn nc : Nat} {need : List Int} {T : Option Addr} {tn tc : Nat} {t : List (List Int)}
theorem needs_any (w : World) (hn : need.length = nn) (hl : nn ≤ 1000) (hI : Ints w w.heap.size N need) :
    Calls Tryd.prog 52 #[.slice N nn nc, .func (.func 51) #[] #[]] w fun e w' => e = .returned (.bool (decide (∃ z ∈ need, badN z = true))) ∧ w' = w := by
  refine (has_int N nc nn need 51 #[] (eg_of Tryd.func51 (by kernel_rfl) rfl) (fun k => match need[k]? with | some z => badN z | none => false) (fun _ x => x = w) w.heap.size hn hl (fun _ x hx => hx ▸ hI) (fun k x W' hk hW => ?_) (decide (∃ z ∈ need, badN z = true)) ?_ w rfl).mono ?_
  · subst hW
    have := badN_any x W'
    simp only [hk]
    exact this.mono fun e w' h => h
  · rw [decide_eq_true_iff]
    constructor
    · rintro ⟨z, hz, hb⟩
      obtain ⟨j, hj, he⟩ := List.getElem_of_mem hz
      exact ⟨j, by omega, by rw [List.getElem?_eq_getElem hj, he]; exact hb⟩
    · rintro ⟨j, hj, hb⟩
      have hj' : j < need.length := by omega
      rw [List.getElem?_eq_getElem hj'] at hb
      exact ⟨_, List.getElem_mem hj', hb⟩
  · rintro e w' ⟨rfl, k, hk⟩
    exact ⟨rfl, hk⟩
theorem form_iff (cores : Int) (hn : need.length = nn) (hW : W.length = n) : FormOk W need cores ↔ nn = n ∧ ¬ (∃ z ∈ need, badN z = true) ∧ 1 ≤ cores ∧ cores ≤ 8 := by
  unfold FormOk
  rw [hn, hW]
  constructor
  · rintro ⟨h1, h2, h3, h4⟩
    refine ⟨h1, fun ⟨z, hz, hb⟩ => ?_, h3, h4⟩
    have := h2 z hz
    simp [badN] at hb
    omega
  · rintro ⟨h1, h2, h3, h4⟩
    refine ⟨h1, fun z hz => ?_, h3, h4⟩
    apply Classical.byContradiction
    intro hb
    refine h2 ⟨z, hz, ?_⟩
    simp [badN]
    omega
set_option maxRecDepth 100000 in
set_option maxHeartbeats 1000000 in
theorem rightNeeds_any (cores : Int) (w : World) (hn : need.length = nn) (hl : nn ≤ 1000) (hW : W.length = n) (hI : Ints w w.heap.size N need) :
    Calls Tryd.prog 32 #[.agg #[.slice A n c, .slice F m d], .slice N nn nc, .int .i64 cores] w fun e w' => e = .returned (.bool (decide (FormOk W need cores))) ∧ Below w.heap.size w w' := by
  have hF := form_iff cores hn hW
  have C := Lib.hid (fun (W' : World) (hI : Ints W' W'.heap.size N need) => needs_any (nc := nc) W' hn hl hI)
  have HI : Hid (Ints (w.alloc (.cells #[.slice A n c, .slice F m d] 25)) (w.alloc (.cells #[.slice A n c, .slice F m d] 25)).heap.size N need) := Lib.hid ((hI.alloc (Nat.le_refl _) _).more (by simp))
  obtain ⟨r, hr⟩ : ∃ r, r = decide (FormOk W need cores) := ⟨_, rfl⟩
  obtain ⟨b, hb⟩ : ∃ b, b = decide (∃ z ∈ need, badN z = true) := ⟨_, rfl⟩
  rw [← hr]
  rw [← hb] at C
  have hrv : r = decide (nn = n ∧ b = false ∧ 1 ≤ cores ∧ cores ≤ 8) := by
    rw [hr]
    refine decide_eq_decide.mpr (hF.trans ?_)
    rw [hb, decide_eq_false_iff_not]
  clear hF hI hr hb hn hW hl
  by_cases h1 : nn = n
  · subst h1
    cases b with
    | true =>
      obtain rfl : r = false := by rw [hrv]; simp
      clear hrv
      go_enter Tryd.func32, Tryd.ntmps32
      go_wp2_with fail
      refine (C.out _ HI.out).mono ?_
      rintro e w1 ⟨rfl, rfl⟩
      go_wp2
      go_ret
      exact ⟨rfl, below_alloc _⟩
    | false =>
      by_cases h2 : 1 ≤ cores
      · obtain rfl : r = decide (cores ≤ 8) := by rw [hrv]; simp [h2]
        clear hrv
        go_enter Tryd.func32, Tryd.ntmps32
        go_wp2_with fail
        refine (C.out _ HI.out).mono ?_
        rintro e w1 ⟨rfl, rfl⟩
        go_wp2
        go_ret
        exact ⟨rfl, below_alloc _⟩
      · obtain rfl : r = false := by rw [hrv]; simp [h2]
        clear hrv
        have h2' : decide (1 ≤ cores) = false := decide_eq_false h2
        clear h2
        go_enter Tryd.func32, Tryd.ntmps32
        go_wp2_with fail
        refine (C.out _ HI.out).mono ?_
        rintro e w1 ⟨rfl, rfl⟩
        go_wp2
        go_ret
        exact ⟨rfl, below_alloc _⟩
  · obtain rfl : r = false := by rw [hrv]; simp [h1]
    clear hrv
    have h1' : ((nn : Int) == (n : Int)) = false := by simpa using (fun q : (nn : Int) = (n : Int) => h1 (by omega))
    clear C h1
    go_enter Tryd.func32, Tryd.ntmps32
    go_wp2
    go_ret
    exact ⟨rfl, below_alloc _⟩
set_option maxRecDepth 100000 in
set_option maxHeartbeats 1000000 in
theorem rightRows_any (cores : Int) (w : World) (ht : t.length = tn) (hl : tn ≤ 1000) (hT : Trc w w.heap.size T t) :
    Calls Tryd.prog 33 #[.int .i64 cores, .slice T tn tc] w fun e w' => e = .returned (.bool (decide (∀ r ∈ t, (r.length : Int) = cores))) ∧ Below w.heap.size w w' := by
  obtain ⟨w0, hw0⟩ : ∃ w0, w0 = w.alloc (.cells #[.int .i64 cores] 3) := ⟨_, rfl⟩
  have hc : w0.cell? ⟨w.heap.size, 0, none⟩ = some (.int .i64 cores) := by rw [hw0, World.cell?_alloc_at _ _ _ _ rfl]; rfl
  have hb0 : Below w.heap.size w w0 := by rw [hw0]; exact below_alloc _
  have hT0 : Trc w0 w.heap.size T t := hT.below hb0
  obtain ⟨b, hb⟩ : ∃ b, b = decide (∀ r ∈ t, (r.length : Int) = cores) := ⟨_, rfl⟩
  rw [← hb]
  have C := Lib.hid (has_row T tc tn t 53 #[.pointer (some ⟨w.heap.size, 0, none⟩)] (eg_of Tryd.func53 (by kernel_rfl) rfl) (fun k => match t[k]? with | some r => ((r.length : Int) != cores) | none => false) (fun _ x => x = w0) w.heap.size ht hl (fun _ x hx => hx ▸ hT0) (fun k xs A1 n1 c1 W' hk hn1 _ _ hW => by
      subst hW
      have := rowsBad_any cores A1 n1 c1 w.heap.size W' hc
      simp only [hk, hn1]
      exact this.mono fun e w' h => h) (!b) (by
      rw [hb]
      constructor
      · intro h
        have h' : ¬ ∀ r ∈ t, (r.length : Int) = cores := by simpa using h
        apply Classical.byContradiction
        intro hno
        refine h' fun r hr => ?_
        obtain ⟨j, hj, he⟩ := List.getElem_of_mem hr
        apply Classical.byContradiction
        intro hne
        refine hno ⟨j, by omega, ?_⟩
        simp only [List.getElem?_eq_getElem hj, he]
        simpa using hne
      · rintro ⟨j, hj, h⟩
        have hj' : j < t.length := by omega
        simp only [List.getElem?_eq_getElem hj'] at h
        have h' : ¬ ∀ r ∈ t, (r.length : Int) = cores := fun hall => by
          have := hall _ (List.getElem_mem hj')
          rw [this] at h
          simp at h
        simpa using h') w0 rfl)
  have HW0 := Lib.hid hw0
  have HB0 := Lib.hid hb0
  clear hT hT0 ht hb hb0 hc
  subst hw0
  go_enter Tryd.func33, Tryd.ntmps33
  go_wp2_with fail
  refine C.out.mono ?_
  rintro e w1 ⟨rfl, k, rfl⟩
  go_wp2
  go_ret
  exact ⟨by simp, HB0.out⟩
end
end Go.Proofs.YtpaambpajpmjdaaDoor
