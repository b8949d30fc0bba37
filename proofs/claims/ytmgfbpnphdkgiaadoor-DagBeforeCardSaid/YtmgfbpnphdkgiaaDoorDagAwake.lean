/- The contract of awake of trefoillaw04 in the seat YtmgfbpnphdkgiaaDoor. No statement is proved here. -/
import Derived.Test.YtmgfbpnphdkgiaaDoorDagLaw
set_option linter.unusedVariables false
namespace Go.Proofs.YtmgfbpnphdkgiaaDoor
open Go.RowKit

theorem Pairs.new2 (w : World) (t : TypeId) (a b c d : Int) : Pairs (w.alloc (.cells #[.int .i64 a, .int .i64 b, .int .i64 c, .int .i64 d] t)) (w.heap.size + 1) (some ⟨w.heap.size, 0, none⟩) [(a, b), (c, d)] := fun _ => by
  refine ⟨_, _, rfl, by simp, fun k e he => ?_⟩
  rw [World.cell?_alloc_at _ _ _ _ rfl, World.cell?_alloc_at _ _ _ _ rfl]
  match k, he with
  | 0, he =>
    obtain rfl : (a, b) = e := by simpa using he
    exact ⟨rfl, rfl⟩
  | 1, he =>
    obtain rfl : (c, d) = e := by simpa using he
    exact ⟨rfl, rfl⟩
structure StA (w w' : World) : Prop where
  bel : Below w.heap.size w w'
  d0 : w'.cell? ⟨w.heap.size + 1 + 1, 0, none⟩ = some (.slice (some ⟨w.heap.size, 0, none⟩) 3 3)
  d1 : w'.cell? ⟨w.heap.size + 1 + 1, 1, none⟩ = some (.slice (some ⟨w.heap.size + 1, 0, none⟩) 2 2)
  r0 : w'.cell? ⟨w.heap.size + 1 + 1 + 1 + 1 + 1, 0, none⟩ = some (.slice (some ⟨w.heap.size + 1 + 1 + 1, 0, none⟩) 2 2)
  r1 : w'.cell? ⟨w.heap.size + 1 + 1 + 1 + 1 + 1, 1, none⟩ = some (.slice (some ⟨w.heap.size + 1 + 1 + 1 + 1, 0, none⟩) 2 2)
  gd : IsG w' (some ⟨w.heap.size, 0, none⟩) 3 3 (some ⟨w.heap.size + 1, 0, none⟩) 2 2 exW exE
  gr : IsG w' (some ⟨w.heap.size + 1 + 1 + 1, 0, none⟩) 2 2 (some ⟨w.heap.size + 1 + 1 + 1 + 1, 0, none⟩) 2 2 roW roE
theorem StA.next {w w1 w2 : World} (h : StA w w1) (hb : Below w1.heap.size w1 w2) : StA w w2 :=
  ⟨h.bel.trans (hb.mono h.bel.size), (hb.cell (World.block_lt_of_cell? _ _ h.d0)).trans h.d0, (hb.cell (World.block_lt_of_cell? _ _ h.d1)).trans h.d1, (hb.cell (World.block_lt_of_cell? _ _ h.r0)).trans h.r0, (hb.cell (World.block_lt_of_cell? _ _ h.r1)).trans h.r1, h.gd.below hb, h.gr.below hb⟩
theorem StA.cells {w w1 : World} (h : StA w w1) : w1.cell? ⟨w.heap.size + 1 + 1, 0, none⟩ = some (.slice (some ⟨w.heap.size, 0, none⟩) 3 3) ∧ w1.cell? ⟨w.heap.size + 1 + 1, 1, none⟩ = some (.slice (some ⟨w.heap.size + 1, 0, none⟩) 2 2) ∧
    w1.cell? ⟨w.heap.size + 1 + 1 + 1 + 1 + 1, 0, none⟩ = some (.slice (some ⟨w.heap.size + 1 + 1 + 1, 0, none⟩) 2 2) ∧ w1.cell? ⟨w.heap.size + 1 + 1 + 1 + 1 + 1, 1, none⟩ = some (.slice (some ⟨w.heap.size + 1 + 1 + 1 + 1, 0, none⟩) 2 2) := ⟨h.d0, h.d1, h.r0, h.r1⟩
theorem StA.start (w : World) (hT : Tab64 w) : StA w ((((((w.alloc (.cells #[.int .i64 2, .int .i64 3, .int .i64 4] 3)).alloc (.cells #[.int .i64 0, .int .i64 2, .int .i64 1, .int .i64 2] 40)).alloc
    (.cells #[.slice (some ⟨w.heap.size, 0, none⟩) 3 3, .slice (some ⟨w.heap.size + 1, 0, none⟩) 2 2] 25)).alloc (.cells #[.int .i64 1, .int .i64 1] 3)).alloc (.cells #[.int .i64 0, .int .i64 1, .int .i64 1, .int .i64 0] 40)).alloc
    (.cells #[.slice (some ⟨w.heap.size + 1 + 1 + 1, 0, none⟩) 2 2, .slice (some ⟨w.heap.size + 1 + 1 + 1 + 1, 0, none⟩) 2 2] 25)) := by
  obtain ⟨w1, h1⟩ : ∃ w1, w1 = w.alloc (.cells #[.int .i64 2, .int .i64 3, .int .i64 4] 3) := ⟨_, rfl⟩
  obtain ⟨w2, h2⟩ : ∃ w2, w2 = w1.alloc (.cells #[.int .i64 0, .int .i64 2, .int .i64 1, .int .i64 2] 40) := ⟨_, rfl⟩
  obtain ⟨w3, h3⟩ : ∃ w3, w3 = w2.alloc (.cells #[.slice (some ⟨w.heap.size, 0, none⟩) 3 3, .slice (some ⟨w.heap.size + 1, 0, none⟩) 2 2] 25) := ⟨_, rfl⟩
  obtain ⟨w4, h4⟩ : ∃ w4, w4 = w3.alloc (.cells #[.int .i64 1, .int .i64 1] 3) := ⟨_, rfl⟩
  obtain ⟨w5, h5⟩ : ∃ w5, w5 = w4.alloc (.cells #[.int .i64 0, .int .i64 1, .int .i64 1, .int .i64 0] 40) := ⟨_, rfl⟩
  obtain ⟨w6, h6⟩ : ∃ w6, w6 = w5.alloc (.cells #[.slice (some ⟨w.heap.size + 1 + 1 + 1, 0, none⟩) 2 2, .slice (some ⟨w.heap.size + 1 + 1 + 1 + 1, 0, none⟩) 2 2] 25) := ⟨_, rfl⟩
  rw [← h1, ← h2, ← h3, ← h4, ← h5, ← h6]
  have s1 : w1.heap.size = w.heap.size + 1 := by rw [h1]; simp
  have s2 : w2.heap.size = w.heap.size + 1 + 1 := by rw [h2]; simp [s1]
  have s3 : w3.heap.size = w.heap.size + 1 + 1 + 1 := by rw [h3]; simp [s2]
  have s4 : w4.heap.size = w.heap.size + 1 + 1 + 1 + 1 := by rw [h4]; simp [s3]
  have s5 : w5.heap.size = w.heap.size + 1 + 1 + 1 + 1 + 1 := by rw [h5]; simp [s4]
  have b5 : Below w5.heap.size w5 w6 := by rw [h6]; exact below_alloc _
  have b4 : Below w4.heap.size w4 w6 := (by rw [h5]; exact below_alloc _ : Below w4.heap.size w4 w5).trans (b5.mono (by omega))
  have b3 : Below w3.heap.size w3 w6 := (by rw [h4]; exact below_alloc _ : Below w3.heap.size w3 w4).trans (b4.mono (by omega))
  have b2 : Below w2.heap.size w2 w6 := (by rw [h3]; exact below_alloc _ : Below w2.heap.size w2 w3).trans (b3.mono (by omega))
  have b1 : Below w1.heap.size w1 w6 := (by rw [h2]; exact below_alloc _ : Below w1.heap.size w1 w2).trans (b2.mono (by omega))
  have b0 : Below w.heap.size w w6 := (by rw [h1]; exact below_alloc _ : Below w.heap.size w w1).trans (b1.mono (by omega))
  have i1 : Ints w1 w1.heap.size (some ⟨w.heap.size, 0, none⟩) [2, 3, 4] := by
    have h := Ints.new3 w 3 2 3 4
    rw [← h1] at h
    exact h.more (by omega)
  have p2 : Pairs w2 w2.heap.size (some ⟨w.heap.size + 1, 0, none⟩) [(0, 2), (1, 2)] := by
    have h := Pairs.new2 w1 40 0 2 1 2
    rw [← h2, s1] at h
    exact h.more (by omega)
  have i4 : Ints w4 w4.heap.size (some ⟨w.heap.size + 1 + 1 + 1, 0, none⟩) [1, 1] := by
    have h := Ints.new2 w3 3 1 1
    rw [← h4, s3] at h
    exact h.more (by omega)
  have p5 : Pairs w5 w5.heap.size (some ⟨w.heap.size + 1 + 1 + 1 + 1, 0, none⟩) [(0, 1), (1, 0)] := by
    have h := Pairs.new2 w4 40 0 1 1 0
    rw [← h5, s4] at h
    exact h.more (by omega)
  refine ⟨b0, ?_, ?_, ?_, ?_, ⟨rfl, rfl, by decide, by decide, (i1.below b1).more b1.size, (p2.below b2).more b2.size, (fun e => by cases e), (fun e => by cases e), hT.via b0⟩, ⟨rfl, rfl, by decide, by decide, (i4.below b4).more b4.size, (p5.below b5).more b5.size, (fun e => by cases e), (fun e => by cases e), hT.via b0⟩⟩
  · refine (b3.cell (by show w.heap.size + 1 + 1 < w3.heap.size; omega)).trans ?_
    rw [h3, World.cell?_alloc_at _ _ _ _ s2.symm]; rfl
  · refine (b3.cell (by show w.heap.size + 1 + 1 < w3.heap.size; omega)).trans ?_
    rw [h3, World.cell?_alloc_at _ _ _ _ s2.symm]; rfl
  · rw [h6, World.cell?_alloc_at _ _ _ _ s5.symm]; rfl
  · rw [h6, World.cell?_alloc_at _ _ _ _ s5.symm]; rfl

theorem Ints.new1 (w : World) (t : TypeId) (a : Int) : Ints (w.alloc (.cells #[.int .i64 a] t)) (w.heap.size + 1) (some ⟨w.heap.size, 0, none⟩) [a] := fun _ => by
  refine ⟨_, _, rfl, by simp, fun k hk => ?_⟩
  match k, hk with
  | 0, _ => rw [World.cell?_alloc_at _ _ _ _ rfl]; rfl
theorem ints_lit {w : World} {A : Option Addr} {c n : Nat} {zs : List Int} {o : Obj} (hn : zs.length = n) (hl : n ≤ 900) (h1 : Ints w w.heap.size A zs) (h2 : Ints (w.alloc o) (w.heap.size + 1) (some ⟨w.heap.size, 0, none⟩) zs) :
    Calls Tryd.prog 24 #[.slice A n c, .slice (some ⟨w.heap.size, 0, none⟩) n n] (w.alloc o) fun e w' => e = .returned (.bool true) ∧ Below w.heap.size w w' := by
  subst hn
  refine (ints_any (w.heap.size + 1) A (some ⟨w.heap.size, 0, none⟩) c zs.length zs zs (w.alloc o) (by omega) (by omega) ((h1.alloc (Nat.le_refl _) o).more (by omega)) h2).mono ?_
  rintro e w' ⟨he, N, rfl⟩
  exact ⟨by rw [he, decide_eq_true rfl], below_drewN (below_alloc o) N⟩
set_option maxRecDepth 100000 in
set_option maxHeartbeats 4000000 in
theorem awake_any (K : DagOk) (w : World) (hT : Tab64 w) : Calls Tryd.prog 10 #[] w fun e w' => e = .returned (.bool true) ∧ Below w.heap.size w w' := by
  have H0 := Lib.hid (StA.start w hT)
  have K1 := Lib.hid (fun w' (h : StA w w') => K.check w' h.gd)
  have K2 := Lib.hid (fun w' (h : StA w w') => K.total w' h.gd)
  have K3 := Lib.hid (fun w' (h : StA w w') => K.long w' h.gd)
  have K4 := Lib.hid (fun w' (h : StA w w') => K.order w' h.gd)
  have K5 := Lib.hid (fun w' (h : StA w w') => K.before w' 1 2 (by decide) (by decide) (by decide) (by decide) h.gd)
  have K6 := Lib.hid (fun w' (h : StA w w') => K.before w' 0 1 (by decide) (by decide) (by decide) (by decide) h.gd)
  have K7 := Lib.hid (fun w' (h : StA w w') => K.preds w' 2 (by decide) (by decide) h.gd)
  have K8 := Lib.hid (fun w' (h : StA w w') => K.succs w' 0 (by decide) (by decide) h.gd)
  have K9 := Lib.hid (fun w' (h : StA w w') => K.check w' h.gr)
  have KA := Lib.hid (fun w' (h : StA w w') => K.same w' h.gd h.gd)
  have KB := Lib.hid (fun w' (h : StA w w') => K.same w' h.gd h.gr)
  rw [exCheck] at K1
  rw [exTotal] at K2
  rw [exLong] at K3
  rw [exOrder] at K4
  rw [exBefore1] at K5
  rw [exBefore0] at K6
  rw [exPreds] at K7
  rw [exSuccs] at K8
  rw [roCheck] at K9
  rw [decide_eq_true (⟨rfl, rfl⟩ : exW = exW ∧ exE = exE)] at KA
  rw [decide_eq_false (show ¬ (exW = roW ∧ exE = roE) by decide)] at KB
  clear K hT
  go_enter Tryd.func10, Tryd.ntmps10
  go_wp2_with fail
  refine (K1.out _ H0.out).mono ?_
  rintro e w1 ⟨rfl, b⟩
  have H1 := Lib.hid (H0.out.next b)
  clear b
  obtain ⟨c1, c2, c3, c4⟩ := H1.out.cells
  go_wp2_with fail
  refine (K2.out _ H1.out).mono ?_
  rintro e w2 ⟨rfl, b⟩
  have H2 := Lib.hid (H1.out.next b)
  clear b c1 c2 c3 c4
  obtain ⟨c1, c2, c3, c4⟩ := H2.out.cells
  go_wp2_with fail
  refine (K3.out _ H2.out).mono ?_
  rintro e w3 ⟨rfl, b⟩
  have H3 := Lib.hid (H2.out.next b)
  clear b c1 c2 c3 c4
  obtain ⟨c1, c2, c3, c4⟩ := H3.out.cells
  go_wp2_with fail
  refine (K4.out _ H3.out).mono ?_
  rintro e w4 ⟨A4, cc4, rfl, hI4, b⟩
  have H4 := Lib.hid (H3.out.next b)
  have HI4 := Lib.hid hI4
  clear b c1 c2 c3 c4 hI4
  obtain ⟨c1, c2, c3, c4⟩ := H4.out.cells
  go_wp2_with fail
  refine (ints_lit rfl (by decide) HI4.out (Ints.new3 w4 3 0 1 2)).mono ?_
  rintro e w5 ⟨rfl, b⟩
  have H5 := Lib.hid (H4.out.next b)
  clear b c1 c2 c3 c4 HI4
  obtain ⟨c1, c2, c3, c4⟩ := H5.out.cells
  go_wp2_with fail
  refine (K5.out _ H5.out).mono ?_
  rintro e w6 ⟨rfl, b⟩
  have H6 := Lib.hid (H5.out.next b)
  clear b c1 c2 c3 c4
  obtain ⟨c1, c2, c3, c4⟩ := H6.out.cells
  go_wp2_with fail
  refine (K6.out _ H6.out).mono ?_
  rintro e w7 ⟨rfl, b⟩
  have H7 := Lib.hid (H6.out.next b)
  clear b c1 c2 c3 c4
  obtain ⟨c1, c2, c3, c4⟩ := H7.out.cells
  go_wp2_with fail
  refine (K7.out _ H7.out).mono ?_
  rintro e w8 ⟨A8, cc8, rfl, hI8, b⟩
  have H8 := Lib.hid (H7.out.next b)
  have HI8 := Lib.hid hI8
  clear b c1 c2 c3 c4 hI8
  obtain ⟨c1, c2, c3, c4⟩ := H8.out.cells
  go_wp2_with fail
  refine (ints_lit rfl (by decide) HI8.out (Ints.new2 w8 3 0 1)).mono ?_
  rintro e w9 ⟨rfl, b⟩
  have H9 := Lib.hid (H8.out.next b)
  clear b c1 c2 c3 c4 HI8
  obtain ⟨c1, c2, c3, c4⟩ := H9.out.cells
  go_wp2_with fail
  refine (K8.out _ H9.out).mono ?_
  rintro e w10 ⟨A10, cc10, rfl, hI10, b⟩
  have H10 := Lib.hid (H9.out.next b)
  have HI10 := Lib.hid hI10
  clear b c1 c2 c3 c4 hI10
  obtain ⟨c1, c2, c3, c4⟩ := H10.out.cells
  go_wp2_with fail
  refine (ints_lit rfl (by decide) HI10.out (Ints.new1 w10 3 2)).mono ?_
  rintro e w11 ⟨rfl, b⟩
  have H11 := Lib.hid (H10.out.next b)
  clear b c1 c2 c3 c4 HI10
  obtain ⟨c1, c2, c3, c4⟩ := H11.out.cells
  go_wp2_with fail
  refine (K9.out _ H11.out).mono ?_
  rintro e w12 ⟨rfl, b⟩
  have H12 := Lib.hid (H11.out.next b)
  clear b c1 c2 c3 c4
  obtain ⟨c1, c2, c3, c4⟩ := H12.out.cells
  go_wp2_with fail
  refine (KA.out _ H12.out).mono ?_
  rintro e w13 ⟨rfl, b⟩
  have H13 := Lib.hid (H12.out.next b)
  clear b c1 c2 c3 c4
  obtain ⟨c1, c2, c3, c4⟩ := H13.out.cells
  go_wp2_with fail
  refine (KB.out _ H13.out).mono ?_
  rintro e w14 ⟨rfl, b⟩
  have H14 := Lib.hid (H13.out.next b)
  clear b c1 c2 c3 c4
  go_wp2_with fail
  go_ret
  exact ⟨rfl, H14.out.bel⟩
end Go.Proofs.YtmgfbpnphdkgiaaDoor
