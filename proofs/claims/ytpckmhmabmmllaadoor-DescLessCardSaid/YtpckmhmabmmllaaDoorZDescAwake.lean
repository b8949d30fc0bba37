/- The contract of awake of trefoillaw05 in the seat YtpckmhmabmmllaaDoor (printed by desc/mk_awake.py). No statement is proved here. -/
import Derived.Test.YtpckmhmabmmllaaDoorZM15
import Derived.Test.YtpckmhmabmmllaaDoorZM1
set_option linter.unusedVariables false
namespace Go.Proofs.YtpckmhmabmmllaaDoor
open Go.RowKit

theorem Trips.lit3 (w : World) (t : TypeId) (a b c d e f g h i : Int) : Trips (w.alloc (.cells #[.int .i64 a, .int .i64 b, .int .i64 c, .int .i64 d, .int .i64 e, .int .i64 f, .int .i64 g, .int .i64 h, .int .i64 i] t)) (w.heap.size + 1) (some ⟨w.heap.size, 0, none⟩) [(a, b, c), (d, e, f), (g, h, i)] := fun _ => by
  refine ⟨_, _, rfl, by simp, fun k x he => ?_⟩
  rw [World.cell?_alloc_at _ _ _ _ rfl, World.cell?_alloc_at _ _ _ _ rfl, World.cell?_alloc_at _ _ _ _ rfl]
  match k, he with
  | 0, he =>
    obtain rfl : (a, b, c) = x := by simpa using he
    exact ⟨rfl, rfl, rfl⟩
  | 1, he =>
    obtain rfl : (d, e, f) = x := by simpa using he
    exact ⟨rfl, rfl, rfl⟩
  | 2, he =>
    obtain rfl : (g, h, i) = x := by simpa using he
    exact ⟨rfl, rfl, rfl⟩
theorem Trips.lit1 (w : World) (t : TypeId) (a b c : Int) : Trips (w.alloc (.cells #[.int .i64 a, .int .i64 b, .int .i64 c] t)) (w.heap.size + 1) (some ⟨w.heap.size, 0, none⟩) [(a, b, c)] := fun _ => by
  refine ⟨_, _, rfl, by simp, fun k x he => ?_⟩
  rw [World.cell?_alloc_at _ _ _ _ rfl, World.cell?_alloc_at _ _ _ _ rfl, World.cell?_alloc_at _ _ _ _ rfl]
  match k, he with
  | 0, he =>
    obtain rfl : (a, b, c) = x := by simpa using he
    exact ⟨rfl, rfl, rfl⟩
theorem Pairs.lit1 (w : World) (t : TypeId) (a b : Int) : Pairs (w.alloc (.cells #[.int .i64 a, .int .i64 b] t)) (w.heap.size + 1) (some ⟨w.heap.size, 0, none⟩) [(a, b)] := fun _ => by
  refine ⟨_, _, rfl, by simp, fun k x he => ?_⟩
  rw [World.cell?_alloc_at _ _ _ _ rfl, World.cell?_alloc_at _ _ _ _ rfl]
  match k, he with
  | 0, he =>
    obtain rfl : (a, b) = x := by simpa using he
    exact ⟨rfl, rfl⟩
theorem Ints.lit1 (w : World) (t : TypeId) (a : Int) : Ints (w.alloc (.cells #[.int .i64 a] t)) (w.heap.size + 1) (some ⟨w.heap.size, 0, none⟩) [a] := fun _ => by
  refine ⟨_, _, rfl, by simp, fun k hk => ?_⟩
  match k, hk with
  | 0, _ => rw [World.cell?_alloc_at _ _ _ _ rfl]; rfl
theorem ints_lit5 {w : World} {A : Option Addr} {c n : Nat} {zs : List Int} {o : Obj} (hn : zs.length = n) (hl : n ≤ 900) (h1 : Ints w w.heap.size A zs) (h2 : Ints (w.alloc o) (w.heap.size + 1) (some ⟨w.heap.size, 0, none⟩) zs) :
    Calls Tryd.prog 18 #[.slice A n c, .slice (some ⟨w.heap.size, 0, none⟩) n n] (w.alloc o) fun e w' => e = .returned (.bool true) ∧ Below w.heap.size w w' := by
  subst hn
  refine (ints_any (w.heap.size + 1) A (some ⟨w.heap.size, 0, none⟩) c zs.length zs zs (w.alloc o) (by omega) (by omega) ((h1.alloc (Nat.le_refl _) o).more (by omega)) h2).mono ?_
  rintro e w' ⟨he, N, rfl⟩
  exact ⟨by rw [he, decide_eq_true rfl], below_drewN (below_alloc o) N⟩
def noSh : Sh := ⟨none, 0, 0, none, 0, 0, none, 0, 0, none, 0, 0⟩
theorem noD (w : World) (hT : DTab w) : IsD w noSh noT :=
  ⟨⟨rfl, rfl, rfl, rfl, (fun h => absurd h (by decide)), (fun h => absurd h (by decide)), (fun h => absurd h (by decide)), (fun h => absurd h (by decide)), (fun _ => ⟨rfl, rfl⟩), (fun _ => ⟨rfl, rfl⟩), (fun _ => ⟨rfl, rfl⟩), (fun _ => ⟨rfl, rfl⟩)⟩, noFew, hT, Nat.le_refl _, Nat.le_refl _⟩
structure StA (w w' : World) : Prop where
  bel : Below w.heap.size w w'
  c0 : w'.cell? ⟨w.heap.size + 1 + 1 + 1 + 1 + 1 + 1, 0, none⟩ = some (.int .i64 8)
  c1 : w'.cell? ⟨w.heap.size + 1 + 1 + 1 + 1 + 1 + 1, 1, none⟩ = some (.int .i64 8)
  c2 : w'.cell? ⟨w.heap.size + 1 + 1 + 1 + 1 + 1 + 1, 2, none⟩ = some (.slice (some ⟨w.heap.size, 0, none⟩) 3 3)
  c3 : w'.cell? ⟨w.heap.size + 1 + 1 + 1 + 1 + 1 + 1, 3, none⟩ = some (.slice (some ⟨w.heap.size + 1, 0, none⟩) 1 1)
  c4 : w'.cell? ⟨w.heap.size + 1 + 1 + 1 + 1 + 1 + 1, 4, none⟩ = some (.slice (some ⟨w.heap.size + 1 + 1, 0, none⟩) 1 1)
  c5 : w'.cell? ⟨w.heap.size + 1 + 1 + 1 + 1 + 1 + 1, 5, none⟩ = some (.slice (some ⟨w.heap.size + 1 + 1 + 1 + 1 + 1, 0, none⟩) 1 1)
  gd : IsD w' ⟨(some ⟨w.heap.size, 0, none⟩), 3, 3, (some ⟨w.heap.size + 1, 0, none⟩), 1, 1, (some ⟨w.heap.size + 1 + 1, 0, none⟩), 1, 1, (some ⟨w.heap.size + 1 + 1 + 1 + 1 + 1, 0, none⟩), 1, 1⟩ exT
  no : IsD w' noSh noT
theorem StA.next {w w1 w2 : World} (h : StA w w1) (hb : Below w1.heap.size w1 w2) : StA w w2 :=
  ⟨h.bel.trans (hb.mono h.bel.size), (hb.cell (World.block_lt_of_cell? _ _ h.c0)).trans h.c0, (hb.cell (World.block_lt_of_cell? _ _ h.c1)).trans h.c1, (hb.cell (World.block_lt_of_cell? _ _ h.c2)).trans h.c2, (hb.cell (World.block_lt_of_cell? _ _ h.c3)).trans h.c3, (hb.cell (World.block_lt_of_cell? _ _ h.c4)).trans h.c4, (hb.cell (World.block_lt_of_cell? _ _ h.c5)).trans h.c5, h.gd.below hb, h.no.below hb⟩
theorem StA.cells {w w1 : World} (h : StA w w1) : w1.cell? ⟨w.heap.size + 1 + 1 + 1 + 1 + 1 + 1, 0, none⟩ = some (.int .i64 8) ∧ w1.cell? ⟨w.heap.size + 1 + 1 + 1 + 1 + 1 + 1, 1, none⟩ = some (.int .i64 8) ∧ w1.cell? ⟨w.heap.size + 1 + 1 + 1 + 1 + 1 + 1, 2, none⟩ = some (.slice (some ⟨w.heap.size, 0, none⟩) 3 3) ∧ w1.cell? ⟨w.heap.size + 1 + 1 + 1 + 1 + 1 + 1, 3, none⟩ = some (.slice (some ⟨w.heap.size + 1, 0, none⟩) 1 1) ∧ w1.cell? ⟨w.heap.size + 1 + 1 + 1 + 1 + 1 + 1, 4, none⟩ = some (.slice (some ⟨w.heap.size + 1 + 1, 0, none⟩) 1 1) ∧ w1.cell? ⟨w.heap.size + 1 + 1 + 1 + 1 + 1 + 1, 5, none⟩ = some (.slice (some ⟨w.heap.size + 1 + 1 + 1 + 1 + 1, 0, none⟩) 1 1) := ⟨h.c0, h.c1, h.c2, h.c3, h.c4, h.c5⟩
theorem StA.start (w : World) (hT : DTab w) : StA w (((((((w.alloc (.cells #[.int .i64 1, .int .i64 0, .int .i64 1, .int .i64 1, .int .i64 0, .int .i64 1, .int .i64 2, .int .i64 0, .int .i64 5] 42)).alloc (.cells #[.int .i64 0, .int .i64 2] 44)).alloc (.cells #[.int .i64 1, .int .i64 2, .int .i64 3] 39)).alloc (.cells #[.int .i64 0] 3)).alloc (.cells #[.int .i64 1] 3)).alloc (.cells #[.slice (some ⟨w.heap.size + 1 + 1 + 1, 0, none⟩) 1 1, .slice (some ⟨w.heap.size + 1 + 1 + 1 + 1, 0, none⟩) 1 1] 46)).alloc (.cells #[.int .i64 8, .int .i64 8, .slice (some ⟨w.heap.size, 0, none⟩) 3 3, .slice (some ⟨w.heap.size + 1, 0, none⟩) 1 1, .slice (some ⟨w.heap.size + 1 + 1, 0, none⟩) 1 1, .slice (some ⟨w.heap.size + 1 + 1 + 1 + 1 + 1, 0, none⟩) 1 1] 27)) := by
  obtain ⟨w1, h1⟩ : ∃ w1, w1 = w.alloc (.cells #[.int .i64 1, .int .i64 0, .int .i64 1, .int .i64 1, .int .i64 0, .int .i64 1, .int .i64 2, .int .i64 0, .int .i64 5] 42) := ⟨_, rfl⟩
  obtain ⟨w2, h2⟩ : ∃ w2, w2 = w1.alloc (.cells #[.int .i64 0, .int .i64 2] 44) := ⟨_, rfl⟩
  obtain ⟨w3, h3⟩ : ∃ w3, w3 = w2.alloc (.cells #[.int .i64 1, .int .i64 2, .int .i64 3] 39) := ⟨_, rfl⟩
  obtain ⟨w4, h4⟩ : ∃ w4, w4 = w3.alloc (.cells #[.int .i64 0] 3) := ⟨_, rfl⟩
  obtain ⟨w5, h5⟩ : ∃ w5, w5 = w4.alloc (.cells #[.int .i64 1] 3) := ⟨_, rfl⟩
  obtain ⟨w6, h6⟩ : ∃ w6, w6 = w5.alloc (.cells #[.slice (some ⟨w.heap.size + 1 + 1 + 1, 0, none⟩) 1 1, .slice (some ⟨w.heap.size + 1 + 1 + 1 + 1, 0, none⟩) 1 1] 46) := ⟨_, rfl⟩
  obtain ⟨w7, h7⟩ : ∃ w7, w7 = w6.alloc (.cells #[.int .i64 8, .int .i64 8, .slice (some ⟨w.heap.size, 0, none⟩) 3 3, .slice (some ⟨w.heap.size + 1, 0, none⟩) 1 1, .slice (some ⟨w.heap.size + 1 + 1, 0, none⟩) 1 1, .slice (some ⟨w.heap.size + 1 + 1 + 1 + 1 + 1, 0, none⟩) 1 1] 27) := ⟨_, rfl⟩
  rw [← h1, ← h2, ← h3, ← h4, ← h5, ← h6, ← h7]
  have s1 : w1.heap.size = w.heap.size + 1 := by rw [h1]; simp
  have s2 : w2.heap.size = w.heap.size + 1 + 1 := by rw [h2]; simp [s1]
  have s3 : w3.heap.size = w.heap.size + 1 + 1 + 1 := by rw [h3]; simp [s2]
  have s4 : w4.heap.size = w.heap.size + 1 + 1 + 1 + 1 := by rw [h4]; simp [s3]
  have s5 : w5.heap.size = w.heap.size + 1 + 1 + 1 + 1 + 1 := by rw [h5]; simp [s4]
  have s6 : w6.heap.size = w.heap.size + 1 + 1 + 1 + 1 + 1 + 1 := by rw [h6]; simp [s5]
  have s7 : w7.heap.size = w.heap.size + 1 + 1 + 1 + 1 + 1 + 1 + 1 := by rw [h7]; simp [s6]
  have b6 : Below w6.heap.size w6 w7 := by rw [h7]; exact below_alloc _
  have b5 : Below w5.heap.size w5 w7 := (by rw [h6]; exact below_alloc _ : Below w5.heap.size w5 w6).trans (b6.mono (by omega))
  have b4 : Below w4.heap.size w4 w7 := (by rw [h5]; exact below_alloc _ : Below w4.heap.size w4 w5).trans (b5.mono (by omega))
  have b3 : Below w3.heap.size w3 w7 := (by rw [h4]; exact below_alloc _ : Below w3.heap.size w3 w4).trans (b4.mono (by omega))
  have b2 : Below w2.heap.size w2 w7 := (by rw [h3]; exact below_alloc _ : Below w2.heap.size w2 w3).trans (b3.mono (by omega))
  have b1 : Below w1.heap.size w1 w7 := (by rw [h2]; exact below_alloc _ : Below w1.heap.size w1 w2).trans (b2.mono (by omega))
  have b0 : Below w.heap.size w w7 := (by rw [h1]; exact below_alloc _ : Below w.heap.size w w1).trans (b1.mono (by omega))
  have t1 : Trips w1 w1.heap.size (some ⟨w.heap.size, 0, none⟩) exT.parts := by
    have h := Trips.lit3 w 42 1 0 1 1 0 1 2 0 5
    rw [← h1] at h
    exact h.more (by omega)
  have t2 : Pairs w2 w2.heap.size (some ⟨w.heap.size + 1, 0, none⟩) exT.edges := by
    have h := Pairs.lit1 w1 44 0 2
    rw [← h2, s1] at h
    exact h.more (by omega)
  have t3 : Trips w3 w3.heap.size (some ⟨w.heap.size + 1 + 1, 0, none⟩) exT.futures := by
    have h := Trips.lit1 w2 39 1 2 3
    rw [← h3, s2] at h
    exact h.more (by omega)
  have t4 : Ints w4 w4.heap.size (some ⟨w.heap.size + 1 + 1 + 1, 0, none⟩) [0] := by
    have h := Ints.lit1 w3 3 0
    rw [← h4, s3] at h
    exact h.more (by omega)
  have t5 : Ints w5 w5.heap.size (some ⟨w.heap.size + 1 + 1 + 1 + 1, 0, none⟩) [1] := by
    have h := Ints.lit1 w4 3 1
    rw [← h5, s4] at h
    exact h.more (by omega)
  have t6 : Bars w6 w6.heap.size (some ⟨w.heap.size + 1 + 1 + 1 + 1 + 1, 0, none⟩) exT.bars := fun _ => by
    refine ⟨_, _, rfl, by omega, fun k x he => ?_⟩
    have hb4 : Below w4.heap.size w4 w6 := (by rw [h5]; exact below_alloc _ : Below w4.heap.size w4 w5).trans ((by rw [h6]; exact below_alloc _ : Below w5.heap.size w5 w6).mono (by omega))
    have hb5 : Below w5.heap.size w5 w6 := by rw [h6]; exact below_alloc _
    match k, he with
    | 0, he =>
      obtain rfl : (([0], [1]) : List Int × List Int) = x := by simpa [exT] using he
      refine ⟨(some ⟨w.heap.size + 1 + 1 + 1, 0, none⟩), 1, (some ⟨w.heap.size + 1 + 1 + 1 + 1, 0, none⟩), 1, ?_, ?_, (t4.below hb4).more hb4.size, (t5.below hb5).more hb5.size, (fun e => by cases e), (fun e => by cases e)⟩
      · rw [h6, World.cell?_alloc_at _ _ _ _ s5.symm]; rfl
      · rw [h6, World.cell?_alloc_at _ _ _ _ s5.symm]; rfl
    | k + 1, he => simp [exT] at he
  refine ⟨b0, ?_, ?_, ?_, ?_, ?_, ?_, ⟨⟨rfl, rfl, rfl, rfl, (t1.below b1).more b1.size, (t2.below b2).more b2.size, (t3.below b3).more b3.size, (t6.below b6).more b6.size, (fun e => by cases e), (fun e => by cases e), (fun e => by cases e), (fun e => by cases e)⟩, exFew, hT.via b0, Nat.le_refl _, Nat.le_refl _⟩, noD _ (hT.via b0)⟩ <;> (rw [h7, World.cell?_alloc_at _ _ _ _ s6.symm]; rfl)
set_option maxRecDepth 100000 in
set_option maxHeartbeats 4000000 in
theorem awake_any (K : DescOk) (w : World) (hT : DTab w) : Calls Tryd.prog 9 #[] w fun e w' => e = .returned (.bool true) ∧ Below w.heap.size w w' := by
  have H0 := Lib.hid (StA.start w hT)
  have K1 := Lib.hid (fun w' (h : StA w w') => K.check w' h.gd)
  have K2 := Lib.hid (fun w' (h : StA w w') => K.feeds w' 2 (by decide) (by decide) h.gd)
  have K3 := Lib.hid (fun w' (h : StA w w') => K.touches w' 2 (by decide) (by decide) h.gd)
  have K4 := Lib.hid (fun w' (h : StA w w') => K.same w' h.gd h.gd)
  have K5 := Lib.hid (fun w' (h : StA w w') => K.same w' h.gd h.no)
  have K6 := Lib.hid (fun w' (h : StA w w') => K.check w' h.no)
  rw [exCheck] at K1
  rw [exFeeds] at K2
  rw [exTouches] at K3
  rw [decide_eq_true (rfl : exT = exT)] at K4
  rw [decide_eq_false ex_no] at K5
  rw [noCheck] at K6
  clear K hT
  go_enter Tryd.func9, Tryd.ntmps9
  go_wp2_with fail
  refine (K1.out _ H0.out).mono ?_
  rintro e w1 ⟨rfl, b⟩
  have H1 := Lib.hid (H0.out.next b)
  clear b
  obtain ⟨c0, c1, c2, c3, c4, c5⟩ := H1.out.cells
  go_wp2_with fail
  refine (K2.out _ H1.out).mono ?_
  rintro e w2 ⟨A2, cc2, rfl, hI, b⟩
  have H2 := Lib.hid (H1.out.next b)
  have HI := Lib.hid hI
  clear b hI c0 c1 c2 c3 c4 c5
  obtain ⟨c0, c1, c2, c3, c4, c5⟩ := H2.out.cells
  go_wp2_with fail
  refine (ints_lit5 rfl (by decide) HI.out (Ints.new2 w2 3 0 1)).mono ?_
  rintro e w3 ⟨rfl, b⟩
  have H3 := Lib.hid (H2.out.next b)
  clear b c0 c1 c2 c3 c4 c5 HI
  obtain ⟨c0, c1, c2, c3, c4, c5⟩ := H3.out.cells
  go_wp2_with fail
  refine (K3.out _ H3.out).mono ?_
  rintro e w4 ⟨A4, cc4, rfl, hI, b⟩
  have H4 := Lib.hid (H3.out.next b)
  have HI := Lib.hid hI
  clear b hI c0 c1 c2 c3 c4 c5
  obtain ⟨c0, c1, c2, c3, c4, c5⟩ := H4.out.cells
  go_wp2_with fail
  refine (ints_lit5 rfl (by decide) HI.out (Ints.lit1 w4 3 0)).mono ?_
  rintro e w5 ⟨rfl, b⟩
  have H5 := Lib.hid (H4.out.next b)
  clear b c0 c1 c2 c3 c4 c5 HI
  obtain ⟨c0, c1, c2, c3, c4, c5⟩ := H5.out.cells
  go_wp2_with fail
  refine (K4.out _ H5.out).mono ?_
  rintro e w6 ⟨rfl, b⟩
  have H6 := Lib.hid (H5.out.next b)
  clear b c0 c1 c2 c3 c4 c5
  obtain ⟨c0, c1, c2, c3, c4, c5⟩ := H6.out.cells
  go_wp2_with fail
  refine (K5.out _ H6.out).mono ?_
  rintro e w7 ⟨rfl, b⟩
  have H7 := Lib.hid (H6.out.next b)
  clear b c0 c1 c2 c3 c4 c5
  obtain ⟨c0, c1, c2, c3, c4, c5⟩ := H7.out.cells
  go_wp2_with fail
  refine (K6.out _ H7.out).mono ?_
  rintro e w8 ⟨rfl, b⟩
  have H8 := Lib.hid (H7.out.next b)
  clear b c0 c1 c2 c3 c4 c5
  go_wp2_with fail
  go_ret
  exact ⟨rfl, H8.out.bel⟩
end Go.Proofs.YtpckmhmabmmllaaDoor
