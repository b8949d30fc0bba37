/- The walk of DagChecks in the seat YtmgfbpnphdkgiaaDoor, given what the program's functions answer. No statement is proved here. -/
import Derived.Test.YtmgfbpnphdkgiaaDoorDagAwake
import Derived.Deep.RegionHeld3
set_option linter.unusedVariables false
namespace Go.Proofs.YtmgfbpnphdkgiaaDoor
open Go.RowKit

theorem own_g {A : Option Addr} {n c : Nat} {F : Option Addr} {m d : Nat} {W : List Int} {E : List (Int × Int)} {w : World} (h : IsG w A n c F m d W E) :
    Calls Tryd.prog 13 #[.agg #[.slice A n c, .slice F m d]] w fun e w' => ∃ A' c' F' d', e = .returned (.agg #[.slice A' n c', .slice F' m d']) ∧ IsG w' A' n c' F' m d' W E ∧ Below w.heap.size w w' := by
  refine (own_any A F n c m d W E w h.hn (by have := h.ln; omega) h.hm (by have := h.lm; omega) h.ints h.pairs h.hA h.hF).mono ?_
  rintro e w' ⟨u, v, rfl, hu, hv, b⟩
  obtain ⟨A', c', F', d', rfl, rfl, hg⟩ := own_isG (h.tab.via b) hu hv (by rw [h.hn]; exact h.ln) (by rw [h.hm]; exact h.lm)
  rw [h.hn, h.hm] at hg ⊢
  exact ⟨A', c', F', d', rfl, hg, b⟩
theorem rcheck_g {A : Option Addr} {n c : Nat} {F : Option Addr} {m d : Nat} {W : List Int} {E : List (Int × Int)} {w : World} (h : IsG w A n c F m d W E) :
    Calls Tryd.prog 14 #[.agg #[.slice A n c, .slice F m d]] w fun e w' => e = .returned (.int .i64 (chkE W E)) ∧ Below w.heap.size w w' :=
  rcheck_any A F n c m d W E w h.hn (by have := h.ln; omega) h.hm (by have := h.lm; omega) h.ints h.pairs
theorem rsame_g {A : Option Addr} {n c : Nat} {F : Option Addr} {m d : Nat} {W : List Int} {E : List (Int × Int)} {A' : Option Addr} {n' c' : Nat} {F' : Option Addr} {m' d' : Nat} {W' : List Int} {E' : List (Int × Int)} {w : World} (h : IsG w A n c F m d W E) (h' : IsG w A' n' c' F' m' d' W' E') :
    Calls Tryd.prog 16 #[.agg #[.slice A n c, .slice F m d], .agg #[.slice A' n' c', .slice F' m' d']] w fun e w' => e = .returned (.bool (decide (W = W' ∧ E = E'))) ∧ Below w.heap.size w w' :=
  same_any A F A' F' n c m d n' c' m' d' W W' E E' w h.hn h.hm h'.hn h'.hm (by have := h.ln; omega) (by have := h.lm; omega) (by have := h'.ln; omega) (by have := h'.lm; omega) h.ints h.pairs h'.ints h'.pairs

section
variable {A : Option Addr} {n c : Nat} {F : Option Addr} {m d : Nat} {W : List Int} {E : List (Int × Int)} {A' : Option Addr} {n' c' : Nat} {F' : Option Addr} {m' d' : Nat} {W' : List Int} {E' : List (Int × Int)}
/-- Two graphs lie in boxes of the call's own (it began in w). -/
structure Bx2 (w : World) (A : Option Addr) (n c : Nat) (F : Option Addr) (m d : Nat) (W : List Int) (E : List (Int × Int)) (A' : Option Addr) (n' c' : Nat) (F' : Option Addr) (m' d' : Nat) (W' : List Int) (E' : List (Int × Int)) (w' : World) : Prop where
  bel : Below w.heap.size w w'
  p0 : w'.cell? ⟨w.heap.size, 0, none⟩ = some (.slice A n c)
  p1 : w'.cell? ⟨w.heap.size, 1, none⟩ = some (.slice F m d)
  q0 : w'.cell? ⟨w.heap.size + 1, 0, none⟩ = some (.slice A' n' c')
  q1 : w'.cell? ⟨w.heap.size + 1, 1, none⟩ = some (.slice F' m' d')
  g : IsG w' A n c F m d W E
  g' : IsG w' A' n' c' F' m' d' W' E'
theorem Bx2.next {w w1 w2 : World} (h : Bx2 w A n c F m d W E A' n' c' F' m' d' W' E' w1) (hb : Below w1.heap.size w1 w2) : Bx2 w A n c F m d W E A' n' c' F' m' d' W' E' w2 :=
  ⟨h.bel.trans (hb.mono h.bel.size), (hb.cell (World.block_lt_of_cell? _ _ h.p0)).trans h.p0, (hb.cell (World.block_lt_of_cell? _ _ h.p1)).trans h.p1, (hb.cell (World.block_lt_of_cell? _ _ h.q0)).trans h.q0, (hb.cell (World.block_lt_of_cell? _ _ h.q1)).trans h.q1, h.g.below hb, h.g'.below hb⟩
theorem Bx2.start {w : World} (h : IsG w A n c F m d W E) (h' : IsG w A' n' c' F' m' d' W' E') :
    Bx2 w A n c F m d W E A' n' c' F' m' d' W' E' ((w.alloc (.cells #[.slice A n c, .slice F m d] 25)).alloc (.cells #[.slice A' n' c', .slice F' m' d'] 25)) := by
  obtain ⟨w1, h1⟩ : ∃ w1, w1 = w.alloc (.cells #[.slice A n c, .slice F m d] 25) := ⟨_, rfl⟩
  rw [← h1]
  have s1 : w1.heap.size = w.heap.size + 1 := by rw [h1]; simp
  have b1 : Below w.heap.size w w1 := by rw [h1]; exact below_alloc _
  have b2 := below_alloc (w := w1) (.cells #[.slice A' n' c', .slice F' m' d'] 25)
  refine ⟨b1.trans (b2.mono (by omega)), ?_, ?_, ?_, ?_, (h.below b1).below b2, (h'.below b1).below b2⟩
  · refine (b2.cell (by show w.heap.size < _; omega)).trans ?_
    rw [h1, World.cell?_alloc_at _ _ _ _ rfl]; rfl
  · refine (b2.cell (by show w.heap.size < _; omega)).trans ?_
    rw [h1, World.cell?_alloc_at _ _ _ _ rfl]; rfl
  · rw [World.cell?_alloc_at _ _ _ _ s1.symm]; rfl
  · rw [World.cell?_alloc_at _ _ _ _ s1.symm]; rfl
theorem Bx2.cells {w w' : World} (h : Bx2 w A n c F m d W E A' n' c' F' m' d' W' E' w') : w'.cell? ⟨w.heap.size, 0, none⟩ = some (.slice A n c) ∧ w'.cell? ⟨w.heap.size, 1, none⟩ = some (.slice F m d) ∧ w'.cell? ⟨w.heap.size + 1, 0, none⟩ = some (.slice A' n' c') ∧ w'.cell? ⟨w.heap.size + 1, 1, none⟩ = some (.slice F' m' d') := ⟨h.p0, h.p1, h.q0, h.q1⟩

theorem bx_g {p : Prop} {w x : World} (h : p ∧ Hid (Bx2 w A n c F m d W E A' n' c' F' m' d' W' E' x)) : IsG x A n c F m d W E := h.2.out.g
theorem bx_g' {p : Prop} {w x : World} (h : p ∧ Hid (Bx2 w A n c F m d W E A' n' c' F' m' d' W' E' x)) : IsG x A' n' c' F' m' d' W' E' := h.2.out.g'
theorem bx_n {p : Prop} {w x y : World} (h : p ∧ Hid (Bx2 w A n c F m d W E A' n' c' F' m' d' W' E' x)) (b : Below x.heap.size x y) : Bx2 w A n c F m d W E A' n' c' F' m' d' W' E' y := h.2.out.next b
set_option maxHeartbeats 4000000 in
theorem checks_few (K : DagOk) (w : World) (h : IsG w A n c F m d W E) (h' : IsG w A' n' c' F' m' d' W' E') (l1 : n ≤ 70) (l2 : m ≤ 300) (l3 : n' ≤ 70) (l4 : m' ≤ 300) :
    Calls Tryd.prog 3 #[.agg #[.slice A n c, .slice F m d], .agg #[.slice A' n' c', .slice F' m' d']] w fun e w' => e = .returned (.bool true) ∧ Below w.heap.size w w' := by
  have HK := Lib.hid K
  have HTB := Lib.hid h.tab
  have F1 := Lib.hid (fun W => few_yes A F n c m d W l1 l2)
  have F2 := Lib.hid (fun W => few_yes A' F' n' c' m' d' W l3 l4)
  have B0 := Lib.hid (Bx2.start h h')
  clear K h h' l1 l2 l3 l4
  go_enter Tryd.func3, Tryd.ntmps3
  go_wp2_with fail
  refine (awake_any HK.out _ (HTB.out.via B0.out.bel)).mono ?_
  rintro e w1 ⟨rfl, b1⟩
  have B1 := Lib.hid (B0.out.next b1)
  clear b1
  obtain ⟨c1, c2, c3, c4⟩ := B1.out.cells
  go_wp2_with fail
  refine (F1.out _).mono ?_
  rintro e w2 ⟨rfl, b2⟩
  have B2 := Lib.hid (B1.out.next b2)
  clear b2 c1 c2 c3 c4
  obtain ⟨c1, c2, c3, c4⟩ := B2.out.cells
  go_wp2_with fail
  refine (F2.out _).mono ?_
  rintro e w3 ⟨rfl, b3⟩
  have B3 := Lib.hid (B2.out.next b3)
  clear b3 c1 c2 c3 c4 B0 B1 B2
  have B3d := Lib.hid (B3.out.next (Below.refl w3.heap.size w3).drew)
  go_wp2_with fail
  go_region_held3 (fun x => (x.cell? ⟨w.heap.size, 0, none⟩ = some (.slice A n c) ∧ x.cell? ⟨w.heap.size, 1, none⟩ = some (.slice F m d) ∧ x.cell? ⟨w.heap.size + 1, 0, none⟩ = some (.slice A' n' c') ∧ x.cell? ⟨w.heap.size + 1, 1, none⟩ = some (.slice F' m' d')) ∧ Hid (Bx2 w A n c F m d W E A' n' c' F' m' d' W' E' x))
    (first | exact ⟨B3d.out.cells, B3d⟩ | exact ⟨HB.out.cells, HB⟩)
    (first
      | (go_at_call 13; refine (own_g (bx_g (by assumption))).mono ?_; rintro e x1 ⟨Aa, ca, Fa, da, rfl, hga, b⟩; have HB := Lib.hid (bx_n (by assumption) b); (try have HGb := Lib.hid (HGa.out.below b)); have HGa := Lib.hid hga; clear b hga)
      | (go_at_call 13; refine (own_g (bx_g' (by assumption))).mono ?_; rintro e x1 ⟨Aa, ca, Fa, da, rfl, hga, b⟩; have HB := Lib.hid (bx_n (by assumption) b); (try have HGb := Lib.hid (HGa.out.below b)); have HGa := Lib.hid hga; clear b hga)
      | (go_at_call 12; refine (HK.out.check _ HGa.out).mono ?_; rintro e x1 ⟨rfl, b⟩; have HB := Lib.hid (bx_n (by assumption) b); clear b)
      | (go_at_call 14; refine (rcheck_g (bx_g (by assumption))).mono ?_; rintro e x1 ⟨rfl, b⟩; have HB := Lib.hid (bx_n (by assumption) b); clear b)
      | (go_at_call 15; refine (HK.out.same _ HGb.out HGa.out).mono ?_; rintro e x1 ⟨rfl, b⟩; have HB := Lib.hid (bx_n (by assumption) b); clear b)
      | (go_at_call 16; refine (rsame_g (bx_g (by assumption)) (bx_g' (by assumption))).mono ?_; rintro e x1 ⟨rfl, b⟩; have HB := Lib.hid (bx_n (by assumption) b); clear b))
  go_wp2
  go_ret
  exact ⟨rfl, HB.out.bel⟩
/-- The boxes alone. -/
structure Cx2 (w : World) (A : Option Addr) (n c : Nat) (F : Option Addr) (m d : Nat) (A' : Option Addr) (n' c' : Nat) (F' : Option Addr) (m' d' : Nat) (w' : World) : Prop where
  bel : Below w.heap.size w w'
  p0 : w'.cell? ⟨w.heap.size, 0, none⟩ = some (.slice A n c)
  p1 : w'.cell? ⟨w.heap.size, 1, none⟩ = some (.slice F m d)
  q0 : w'.cell? ⟨w.heap.size + 1, 0, none⟩ = some (.slice A' n' c')
  q1 : w'.cell? ⟨w.heap.size + 1, 1, none⟩ = some (.slice F' m' d')
theorem Cx2.next {w w1 w2 : World} (h : Cx2 w A n c F m d A' n' c' F' m' d' w1) (hb : Below w1.heap.size w1 w2) : Cx2 w A n c F m d A' n' c' F' m' d' w2 :=
  ⟨h.bel.trans (hb.mono h.bel.size), (hb.cell (World.block_lt_of_cell? _ _ h.p0)).trans h.p0, (hb.cell (World.block_lt_of_cell? _ _ h.p1)).trans h.p1, (hb.cell (World.block_lt_of_cell? _ _ h.q0)).trans h.q0, (hb.cell (World.block_lt_of_cell? _ _ h.q1)).trans h.q1⟩
theorem Cx2.start (w : World) (A : Option Addr) (n c : Nat) (F : Option Addr) (m d : Nat) (A' : Option Addr) (n' c' : Nat) (F' : Option Addr) (m' d' : Nat) :
    Cx2 w A n c F m d A' n' c' F' m' d' ((w.alloc (.cells #[.slice A n c, .slice F m d] 25)).alloc (.cells #[.slice A' n' c', .slice F' m' d'] 25)) := by
  obtain ⟨w1, h1⟩ : ∃ w1, w1 = w.alloc (.cells #[.slice A n c, .slice F m d] 25) := ⟨_, rfl⟩
  rw [← h1]
  have s1 : w1.heap.size = w.heap.size + 1 := by rw [h1]; simp
  have b1 : Below w.heap.size w w1 := by rw [h1]; exact below_alloc _
  have b2 := below_alloc (w := w1) (.cells #[.slice A' n' c', .slice F' m' d'] 25)
  refine ⟨b1.trans (b2.mono (by omega)), ?_, ?_, ?_, ?_⟩
  · refine (b2.cell (by show w.heap.size < _; omega)).trans ?_
    rw [h1, World.cell?_alloc_at _ _ _ _ rfl]; rfl
  · refine (b2.cell (by show w.heap.size < _; omega)).trans ?_
    rw [h1, World.cell?_alloc_at _ _ _ _ rfl]; rfl
  · rw [World.cell?_alloc_at _ _ _ _ s1.symm]; rfl
  · rw [World.cell?_alloc_at _ _ _ _ s1.symm]; rfl
theorem Cx2.cells {w w' : World} (h : Cx2 w A n c F m d A' n' c' F' m' d' w') : w'.cell? ⟨w.heap.size, 0, none⟩ = some (.slice A n c) ∧ w'.cell? ⟨w.heap.size, 1, none⟩ = some (.slice F m d) ∧ w'.cell? ⟨w.heap.size + 1, 0, none⟩ = some (.slice A' n' c') ∧ w'.cell? ⟨w.heap.size + 1, 1, none⟩ = some (.slice F' m' d') := ⟨h.p0, h.p1, h.q0, h.q1⟩
set_option maxHeartbeats 2000000 in
theorem checks_many (K : DagOk) (w : World) (hT : Tab64 w) (A : Option Addr) (n c : Nat) (F : Option Addr) (m d : Nat) (A' : Option Addr) (n' c' : Nat) (F' : Option Addr) (m' d' : Nat) (k1 : n ≤ 9223372036854775807) (k2 : m ≤ 9223372036854775807) (k3 : n' ≤ 9223372036854775807) (k4 : m' ≤ 9223372036854775807) (h : ¬ ((n ≤ 70 ∧ m ≤ 300) ∧ n' ≤ 70 ∧ m' ≤ 300)) :
    Calls Tryd.prog 3 #[.agg #[.slice A n c, .slice F m d], .agg #[.slice A' n' c', .slice F' m' d']] w fun e w' => e = .returned (.bool true) ∧ Below w.heap.size w w' := by
  have HK := Lib.hid K
  have HTB := Lib.hid hT
  clear hT
  have B0 := Lib.hid (Cx2.start w A n c F m d A' n' c' F' m' d')
  clear K
  by_cases hd : n ≤ 70 ∧ m ≤ 300
  · have F1 := Lib.hid (fun W => few_yes A F n c m d W hd.1 hd.2)
    have F2 := Lib.hid (fun W => few_no A' F' n' c' m' d' W k3 k4 (fun q => h ⟨hd, q⟩))
    clear hd h k1 k2 k3 k4
    go_enter Tryd.func3, Tryd.ntmps3
    go_wp2_with fail
    refine (awake_any HK.out _ (HTB.out.via B0.out.bel)).mono ?_
    rintro e w1 ⟨rfl, b1⟩
    have B1 := Lib.hid (B0.out.next b1)
    clear b1
    obtain ⟨c1, c2, c3, c4⟩ := B1.out.cells
    go_wp2_with fail
    refine (F1.out _).mono ?_
    rintro e w2 ⟨rfl, b2⟩
    have B2 := Lib.hid (B1.out.next b2)
    clear b2 c1 c2 c3 c4
    obtain ⟨c1, c2, c3, c4⟩ := B2.out.cells
    go_wp2_with fail
    refine (F2.out _).mono ?_
    rintro e w3 ⟨rfl, b3⟩
    have B3 := Lib.hid (B2.out.next b3)
    clear b3 c1 c2 c3 c4
    go_wp2_with fail
    refine (awake_any HK.out _ (HTB.out.via B3.out.bel)).mono ?_
    rintro e w4 ⟨rfl, b4⟩
    have B4 := Lib.hid (B3.out.next b4)
    clear b4
    go_wp2_with fail
    go_ret
    exact ⟨rfl, B4.out.bel⟩
  · have F1 := Lib.hid (fun W => few_no A F n c m d W k1 k2 hd)
    clear hd h k1 k2 k3 k4
    go_enter Tryd.func3, Tryd.ntmps3
    go_wp2_with fail
    refine (awake_any HK.out _ (HTB.out.via B0.out.bel)).mono ?_
    rintro e w1 ⟨rfl, b1⟩
    have B1 := Lib.hid (B0.out.next b1)
    clear b1
    obtain ⟨c1, c2, c3, c4⟩ := B1.out.cells
    go_wp2_with fail
    refine (F1.out _).mono ?_
    rintro e w2 ⟨rfl, b2⟩
    have B2 := Lib.hid (B1.out.next b2)
    clear b2 c1 c2 c3 c4
    go_wp2_with fail
    refine (awake_any HK.out _ (HTB.out.via B2.out.bel)).mono ?_
    rintro e w4 ⟨rfl, b4⟩
    have B4 := Lib.hid (B2.out.next b4)
    clear b4
    go_wp2_with fail
    go_ret
    exact ⟨rfl, B4.out.bel⟩
end
/-- A graph as a row gives it: of any length. -/
structure InG (w : World) (A : Option Addr) (n c : Nat) (F : Option Addr) (m d : Nat) (W : List Int) (E : List (Int × Int)) : Prop where
  hn : W.length = n
  hm : E.length = m
  ln : n ≤ 9223372036854775807
  lm : m ≤ 9223372036854775807
  ints : Ints w w.heap.size A W
  pairs : Pairs w w.heap.size F E
  hA : A = none → n = 0 ∧ c = 0
  hF : F = none → m = 0 ∧ d = 0
  wfW : ∀ z ∈ W, -9223372036854775808 ≤ z ∧ z ≤ 9223372036854775807
  wfE : ∀ e ∈ E, (-9223372036854775808 ≤ e.1 ∧ e.1 ≤ 9223372036854775807) ∧ (-9223372036854775808 ≤ e.2 ∧ e.2 ≤ 9223372036854775807)
theorem InG.isG {w : World} {A : Option Addr} {n c : Nat} {F : Option Addr} {m d : Nat} {W : List Int} {E : List (Int × Int)} (hT : Tab64 w) (h : InG w A n c F m d W E) (hn : n ≤ 70) (hm : m ≤ 300) : IsG w A n c F m d W E :=
  ⟨h.hn, h.hm, by omega, by omega, h.ints, h.pairs, h.hA, h.hF, hT⟩
theorem walk_DagChecks (K : DagOk) (w : World) (hT : Tab64 w) {A : Option Addr} {n c : Nat} {F : Option Addr} {m d : Nat} {W : List Int} {E : List (Int × Int)} (h : InG w A n c F m d W E) {A' : Option Addr} {n' c' : Nat} {F' : Option Addr} {m' d' : Nat} {W' : List Int} {E' : List (Int × Int)} (h' : InG w A' n' c' F' m' d' W' E') :
    Calls Tryd.prog 3 #[.agg #[.slice A n c, .slice F m d], .agg #[.slice A' n' c', .slice F' m' d']] w fun e w' => e = .returned (.bool true) ∧ Below w.heap.size w w' := by
  by_cases hf : (n ≤ 70 ∧ m ≤ 300) ∧ n' ≤ 70 ∧ m' ≤ 300
  · exact checks_few K w (h.isG hT hf.1.1 hf.1.2) (h'.isG hT hf.2.1 hf.2.2) hf.1.1 hf.1.2 hf.2.1 hf.2.2
  · exact checks_many K w hT A n c F m d A' n' c' F' m' d' h.ln h.lm h'.ln h'.lm hf
end Go.Proofs.YtmgfbpnphdkgiaaDoor
