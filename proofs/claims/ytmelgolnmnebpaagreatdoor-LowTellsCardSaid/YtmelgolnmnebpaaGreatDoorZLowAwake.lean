/- The contract of awake of trefoillaw07 in the seat YtmelgolnmnebpaaGreatDoor. No statement is proved here. -/
import Derived.Test.YtmelgolnmnebpaaGreatDoorZM23
set_option linter.unusedSimpArgs false
set_option linter.unusedVariables false
namespace Go.Proofs.YtmelgolnmnebpaaGreatDoor
open Go.RowKit

theorem Trips.two7 (w : World) (t : TypeId) (a b c d e f : Int) : Trips (w.alloc (.cells #[.int .i64 a, .int .i64 b, .int .i64 c, .int .i64 d, .int .i64 e, .int .i64 f] t)) (w.heap.size + 1) (some ⟨w.heap.size, 0, none⟩) [(a, b, c), (d, e, f)] := fun _ => by
  refine ⟨_, _, rfl, by simp, fun k x he => ?_⟩
  rw [World.cell?_alloc_at _ _ _ _ rfl, World.cell?_alloc_at _ _ _ _ rfl, World.cell?_alloc_at _ _ _ _ rfl]
  match k, he with
  | 0, he =>
    obtain rfl : (a, b, c) = x := by simpa using he
    exact ⟨rfl, rfl, rfl⟩
  | 1, he =>
    obtain rfl : (d, e, f) = x := by simpa using he
    exact ⟨rfl, rfl, rfl⟩
theorem Trips.one7 (w : World) (t : TypeId) (a b c : Int) : Trips (w.alloc (.cells #[.int .i64 a, .int .i64 b, .int .i64 c] t)) (w.heap.size + 1) (some ⟨w.heap.size, 0, none⟩) [(a, b, c)] := fun _ => by
  refine ⟨_, _, rfl, by simp, fun k x he => ?_⟩
  rw [World.cell?_alloc_at _ _ _ _ rfl, World.cell?_alloc_at _ _ _ _ rfl, World.cell?_alloc_at _ _ _ _ rfl]
  match k, he with
  | 0, he =>
    obtain rfl : (a, b, c) = x := by simpa using he
    exact ⟨rfl, rfl, rfl⟩
theorem Pairs.two7 (w : World) (t : TypeId) (a b c d : Int) : Pairs (w.alloc (.cells #[.int .i64 a, .int .i64 b, .int .i64 c, .int .i64 d] t)) (w.heap.size + 1) (some ⟨w.heap.size, 0, none⟩) [(a, b), (c, d)] := fun _ => by
  refine ⟨_, _, rfl, by simp, fun k e he => ?_⟩
  rw [World.cell?_alloc_at _ _ _ _ rfl, World.cell?_alloc_at _ _ _ _ rfl]
  match k, he with
  | 0, he =>
    obtain rfl : (a, b) = e := by simpa using he
    exact ⟨rfl, rfl⟩
  | 1, he =>
    obtain rfl : (c, d) = e := by simpa using he
    exact ⟨rfl, rfl⟩
/-- The example lies there. -/
structure StQE (w w' : World) : Prop where
  bel : Below w.heap.size w w'
  c0 : w'.cell? ⟨w.heap.size + 1 + 1, 0, none⟩ = some (.int .i64 8)
  c1 : w'.cell? ⟨w.heap.size + 1 + 1, 1, none⟩ = some (.int .i64 8)
  c2 : w'.cell? ⟨w.heap.size + 1 + 1, 2, none⟩ = some (.slice (some ⟨w.heap.size, 0, none⟩) 2 2)
  c3 : w'.cell? ⟨w.heap.size + 1 + 1, 3, none⟩ = some (.slice none 0 0)
  c4 : w'.cell? ⟨w.heap.size + 1 + 1, 4, none⟩ = some (.slice (some ⟨w.heap.size + 1, 0, none⟩) 1 1)
  c5 : w'.cell? ⟨w.heap.size + 1 + 1, 5, none⟩ = some (.slice none 0 0)
  gd : IsD w' ⟨(some ⟨w.heap.size, 0, none⟩), 2, 2, none, 0, 0, (some ⟨w.heap.size + 1, 0, none⟩), 1, 1, none, 0, 0⟩ exL
theorem StQE.cells {w w' : World} (h : StQE w w') : w'.cell? ⟨w.heap.size + 1 + 1, 0, none⟩ = some (.int .i64 8) ∧ w'.cell? ⟨w.heap.size + 1 + 1, 1, none⟩ = some (.int .i64 8) ∧ w'.cell? ⟨w.heap.size + 1 + 1, 2, none⟩ = some (.slice (some ⟨w.heap.size, 0, none⟩) 2 2) ∧ w'.cell? ⟨w.heap.size + 1 + 1, 3, none⟩ = some (.slice none 0 0) ∧ w'.cell? ⟨w.heap.size + 1 + 1, 4, none⟩ = some (.slice (some ⟨w.heap.size + 1, 0, none⟩) 1 1) ∧ w'.cell? ⟨w.heap.size + 1 + 1, 5, none⟩ = some (.slice none 0 0) := ⟨h.c0, h.c1, h.c2, h.c3, h.c4, h.c5⟩
theorem StQE.start (w : World) (hT : DTab w) : StQE w (((w.alloc (.cells #[.int .i64 0, .int .i64 0, .int .i64 2, .int .i64 0, .int .i64 0, .int .i64 5] 62)).alloc (.cells #[.int .i64 0, .int .i64 1, .int .i64 3] 67)).alloc (.cells #[.int .i64 8, .int .i64 8, .slice (some ⟨w.heap.size, 0, none⟩) 2 2, .slice none 0 0, .slice (some ⟨w.heap.size + 1, 0, none⟩) 1 1, .slice none 0 0] 27)) := by
  obtain ⟨w1, h1⟩ : ∃ w1, w1 = w.alloc (.cells #[.int .i64 0, .int .i64 0, .int .i64 2, .int .i64 0, .int .i64 0, .int .i64 5] 62) := ⟨_, rfl⟩
  obtain ⟨w2, h2⟩ : ∃ w2, w2 = w1.alloc (.cells #[.int .i64 0, .int .i64 1, .int .i64 3] 67) := ⟨_, rfl⟩
  obtain ⟨w3, h3⟩ : ∃ w3, w3 = w2.alloc (.cells #[.int .i64 8, .int .i64 8, .slice (some ⟨w.heap.size, 0, none⟩) 2 2, .slice none 0 0, .slice (some ⟨w.heap.size + 1, 0, none⟩) 1 1, .slice none 0 0] 27) := ⟨_, rfl⟩
  rw [← h1, ← h2, ← h3]
  have s1 : w1.heap.size = w.heap.size + 1 := by rw [h1]; simp
  have s2 : w2.heap.size = w.heap.size + 1 + 1 := by rw [h2]; simp [s1]
  have b2 : Below w2.heap.size w2 w3 := by rw [h3]; exact below_alloc _
  have b1 : Below w1.heap.size w1 w3 := (by rw [h2]; exact below_alloc _ : Below w1.heap.size w1 w2).trans (b2.mono (by omega))
  have b0 : Below w.heap.size w w3 := (by rw [h1]; exact below_alloc _ : Below w.heap.size w w1).trans (b1.mono (by omega))
  have t1 : Trips w1 w1.heap.size (some ⟨w.heap.size, 0, none⟩) exL.parts := by
    have h := Trips.two7 w 62 0 0 2 0 0 5
    rw [← h1] at h
    exact h.more (by omega)
  have t2 : Trips w2 w2.heap.size (some ⟨w.heap.size + 1, 0, none⟩) exL.futures := by
    have h := Trips.one7 w1 67 0 1 3
    rw [← h2, s1] at h
    exact h.more (by omega)
  refine ⟨b0, ?_, ?_, ?_, ?_, ?_, ?_, ⟨⟨rfl, rfl, rfl, rfl, (t1.below b1).more b1.size, (fun h => absurd h (by decide)), (t2.below b2).more b2.size, (fun h => absurd h (by decide)), (fun e => by cases e), (fun _ => ⟨rfl, rfl⟩), (fun e => by cases e), (fun _ => ⟨rfl, rfl⟩)⟩, exLFew, hT.via b0, Nat.le_refl _, Nat.le_refl _⟩⟩ <;> (rw [h3, World.cell?_alloc_at _ _ _ _ s2.symm]; rfl)
/-- The example's graph lies in a box, and is as it was handed out. -/
structure StQL (w : World) (A : Option Addr) (c : Nat) (F : Option Addr) (d : Nat) (R : Option Addr) (e : Nat) (g : Nat) (w' : World) : Prop where
  bel : Below w.heap.size w w'
  c0 : w'.cell? ⟨g, 0, none⟩ = some (.slice A 3 c)
  c1 : w'.cell? ⟨g, 1, none⟩ = some (.slice F 2 d)
  c2 : w'.cell? ⟨g, 2, none⟩ = some (.slice R 3 e)
  l : IsL w' A 3 c F 2 d R 3 e [2, 3, 2] [(1, 2), (0, 2)] [(0, 0), (1, 0), (1, 1)]
section
variable {w w1 w2 : World} {A : Option Addr} {c : Nat} {F : Option Addr} {d : Nat} {R : Option Addr} {e : Nat} {g : Nat}
theorem StQL.next (h : StQL w A c F d R e g w1) (hb : Below w1.heap.size w1 w2) : StQL w A c F d R e g w2 :=
  ⟨h.bel.trans (hb.mono h.bel.size), (hb.cell (World.block_lt_of_cell? _ _ h.c0)).trans h.c0, (hb.cell (World.block_lt_of_cell? _ _ h.c1)).trans h.c1, (hb.cell (World.block_lt_of_cell? _ _ h.c2)).trans h.c2, h.l.below hb⟩
theorem StQL.cells (h : StQL w A c F d R e g w1) : w1.cell? ⟨g, 0, none⟩ = some (.slice A 3 c) ∧ w1.cell? ⟨g, 1, none⟩ = some (.slice F 2 d) ∧ w1.cell? ⟨g, 2, none⟩ = some (.slice R 3 e) := ⟨h.c0, h.c1, h.c2⟩
theorem StQL.start {w0 : World} (hb : Below w0.heap.size w0 w) (h : IsL w A 3 c F 2 d R 3 e [2, 3, 2] [(1, 2), (0, 2)] [(0, 0), (1, 0), (1, 1)]) : StQL w0 A c F d R e w.heap.size (w.alloc (.cells #[.slice A 3 c, .slice F 2 d, .slice R 3 e] 35)) := by
  refine ⟨hb.trans ((below_alloc _).mono hb.size), ?_, ?_, ?_, h.below (below_alloc _)⟩ <;> (rw [World.cell?_alloc_at _ _ _ _ rfl]; rfl)
end
/-- Behind it the task that leads round. -/
structure StQR (w : World) (N : Nat) (w' : World) : Prop where
  bel : Below N w w'
  c0 : w'.cell? ⟨N + 1 + 1, 0, none⟩ = some (.int .i64 8)
  c1 : w'.cell? ⟨N + 1 + 1, 1, none⟩ = some (.int .i64 8)
  c2 : w'.cell? ⟨N + 1 + 1, 2, none⟩ = some (.slice (some ⟨N, 0, none⟩) 2 2)
  c3 : w'.cell? ⟨N + 1 + 1, 3, none⟩ = some (.slice (some ⟨N + 1, 0, none⟩) 2 2)
  c4 : w'.cell? ⟨N + 1 + 1, 4, none⟩ = some (.slice none 0 0)
  c5 : w'.cell? ⟨N + 1 + 1, 5, none⟩ = some (.slice none 0 0)
  gd : IsD w' ⟨(some ⟨N, 0, none⟩), 2, 2, (some ⟨N + 1, 0, none⟩), 2, 2, none, 0, 0, none, 0, 0⟩ roL
theorem StQR.cells {w w' : World} {N : Nat} (h : StQR w N w') : w'.cell? ⟨N + 1 + 1, 0, none⟩ = some (.int .i64 8) ∧ w'.cell? ⟨N + 1 + 1, 1, none⟩ = some (.int .i64 8) ∧ w'.cell? ⟨N + 1 + 1, 2, none⟩ = some (.slice (some ⟨N, 0, none⟩) 2 2) ∧ w'.cell? ⟨N + 1 + 1, 3, none⟩ = some (.slice (some ⟨N + 1, 0, none⟩) 2 2) ∧ w'.cell? ⟨N + 1 + 1, 4, none⟩ = some (.slice none 0 0) ∧ w'.cell? ⟨N + 1 + 1, 5, none⟩ = some (.slice none 0 0) := ⟨h.c0, h.c1, h.c2, h.c3, h.c4, h.c5⟩
theorem StQR.start (w : World) (N : Nat) (hN : w.heap.size = N) (hT : DTab w) : StQR w N (((w.alloc (.cells #[.int .i64 0, .int .i64 0, .int .i64 2, .int .i64 0, .int .i64 0, .int .i64 5] 62)).alloc (.cells #[.int .i64 0, .int .i64 1, .int .i64 1, .int .i64 0] 69)).alloc (.cells #[.int .i64 8, .int .i64 8, .slice (some ⟨N, 0, none⟩) 2 2, .slice (some ⟨N + 1, 0, none⟩) 2 2, .slice none 0 0, .slice none 0 0] 27)) := by
  obtain ⟨w1, h1⟩ : ∃ w1, w1 = w.alloc (.cells #[.int .i64 0, .int .i64 0, .int .i64 2, .int .i64 0, .int .i64 0, .int .i64 5] 62) := ⟨_, rfl⟩
  obtain ⟨w2, h2⟩ : ∃ w2, w2 = w1.alloc (.cells #[.int .i64 0, .int .i64 1, .int .i64 1, .int .i64 0] 69) := ⟨_, rfl⟩
  obtain ⟨w3, h3⟩ : ∃ w3, w3 = w2.alloc (.cells #[.int .i64 8, .int .i64 8, .slice (some ⟨N, 0, none⟩) 2 2, .slice (some ⟨N + 1, 0, none⟩) 2 2, .slice none 0 0, .slice none 0 0] 27) := ⟨_, rfl⟩
  rw [← h1, ← h2, ← h3]
  have s1 : w1.heap.size = N + 1 := by rw [h1]; simp [hN]
  have s2 : w2.heap.size = N + 1 + 1 := by rw [h2]; simp [s1]
  have b2 : Below w2.heap.size w2 w3 := by rw [h3]; exact below_alloc _
  have b1 : Below w1.heap.size w1 w3 := (by rw [h2]; exact below_alloc _ : Below w1.heap.size w1 w2).trans (b2.mono (by omega))
  have b0 : Below N w w3 := (by rw [h1, ← hN]; exact below_alloc _ : Below N w w1).trans (b1.mono (by omega))
  have t1 : Trips w1 w1.heap.size (some ⟨N, 0, none⟩) roL.parts := by
    have h := Trips.two7 w 62 0 0 2 0 0 5
    rw [← h1, hN] at h
    exact h.more (by omega)
  have t2 : Pairs w2 w2.heap.size (some ⟨N + 1, 0, none⟩) roL.edges := by
    have h := Pairs.two7 w1 69 0 1 1 0
    rw [← h2, s1] at h
    exact h.more (by omega)
  refine ⟨b0, ?_, ?_, ?_, ?_, ?_, ?_, ⟨⟨rfl, rfl, rfl, rfl, (t1.below b1).more b1.size, (t2.below b2).more b2.size, (fun h => absurd h (by decide)), (fun h => absurd h (by decide)), (fun e => by cases e), (fun e => by cases e), (fun _ => ⟨rfl, rfl⟩), (fun _ => ⟨rfl, rfl⟩)⟩, roLFew, hT.via (by rw [hN]; exact b0), Nat.le_refl _, Nat.le_refl _⟩⟩ <;> (rw [h3, World.cell?_alloc_at _ _ _ _ s2.symm]; rfl)
/-- Nothing, lowered. -/
theorem noL {w : World} (hT : Tab64 w) : IsL w none 0 0 none 0 0 none 0 0 [] [] [] :=
  ⟨⟨rfl, rfl, by decide, by decide, (fun h => absurd h (by decide)), (fun h => absurd h (by decide)), (fun _ => ⟨rfl, rfl⟩), (fun _ => ⟨rfl, rfl⟩), hT⟩, rfl, by decide, fun h => absurd h (by decide)⟩
theorem GotLow.boxes {T : Task} {w w' : World} {e : Ending} (h : GotLow T w e w') (hT : Tab64 w) (hX : lowX T = 0 → (lowWv T).length ≤ 400 ∧ (lowEv T).length ≤ 400 ∧ (lowPv T).length ≤ 400) :
    ∃ A c F d R k, e = .returned (.tuple #[.agg #[.slice A (lowWv T).length c, .slice F (lowEv T).length d, .slice R (lowPv T).length k], .int .i64 (lowX T)]) ∧ IsL w' A (lowWv T).length c F (lowEv T).length d R (lowPv T).length k (lowWv T) (lowEv T) (lowPv T) ∧ Below w.heap.size w w' := by
  obtain ⟨vW, vE, vP, rfl, h1, h2, h3, b⟩ := h
  have hl : (lowWv T).length ≤ 400 ∧ (lowEv T).length ≤ 400 ∧ (lowPv T).length ≤ 400 := by
    by_cases h0 : lowX T = 0
    · exact hX h0
    · have hN : ¬ LowOk T := fun h => h0 (lowX_zero.mpr h)
      unfold lowWv lowEv lowPv
      rw [if_neg hN, if_neg hN, if_neg hN]
      decide
  obtain ⟨A, c, F, d, R, k, rfl, rfl, rfl, hL⟩ := own_isL (hT.via b) h1 h2 h3 hl.1 hl.2.1 hl.2.2
  exact ⟨A, c, F, d, R, k, rfl, hL, b⟩
theorem lows_few {T : Task} (h : lowX T = 0) : (lowWv T).length ≤ 400 ∧ (lowEv T).length ≤ 400 ∧ (lowPv T).length ≤ 400 := by
  have hOK := lowX_zero.mp h
  have := low_few hOK.1
  unfold lowWv lowEv lowPv
  rw [if_pos hOK, if_pos hOK, if_pos hOK]
  omega
theorem roLv : lowWv roL = [] ∧ lowEv roL = [] ∧ lowPv roL = [] := by
  have hN : ¬ LowOk roL := fun h => absurd (lowX_zero.mpr h) (by rw [roLX]; decide)
  unfold lowWv lowEv lowPv
  rw [if_neg hN, if_neg hN, if_neg hN]
  exact ⟨rfl, rfl, rfl⟩
/-- Lower, as its callers read it. -/
theorem lower_got (s : Sh) (T : Task) (w : World) (hD : IsD w s T) : Calls Tryz.prog 11 #[s.arg T.period T.deadline] w fun e w' =>
    ∃ A c F d R k, e = .returned (.tuple #[.agg #[.slice A (lowWv T).length c, .slice F (lowEv T).length d, .slice R (lowPv T).length k], .int .i64 (lowX T)]) ∧ IsL w' A (lowWv T).length c F (lowEv T).length d R (lowPv T).length k (lowWv T) (lowEv T) (lowPv T) ∧ Below w.heap.size w w' :=
  (lower_any s T w hD).mono fun _ _ h => h.boxes hD.tab lows_few
theorem ex_got {w w' : World} (h : StQE w w') : Calls Tryz.prog 11 #[.agg #[.int .i64 8, .int .i64 8, .slice (some ⟨w.heap.size, 0, none⟩) 2 2, .slice none 0 0, .slice (some ⟨w.heap.size + 1, 0, none⟩) 1 1, .slice none 0 0]] w' fun e w'' =>
    ∃ A c F d R k, e = .returned (.tuple #[.agg #[.slice A 3 c, .slice F 2 d, .slice R 3 k], .int .i64 0]) ∧ IsL w'' A 3 c F 2 d R 3 k [2, 3, 2] [(1, 2), (0, 2)] [(0, 0), (1, 0), (1, 1)] ∧ Below w'.heap.size w' w'' := by
  have K := lower_got _ _ w' h.gd
  rw [exLWv, exLEv, exLPv, exLX] at K
  exact K
theorem ro_got {w w' : World} {N : Nat} (h : StQR w N w') : Calls Tryz.prog 11 #[.agg #[.int .i64 8, .int .i64 8, .slice (some ⟨N, 0, none⟩) 2 2, .slice (some ⟨N + 1, 0, none⟩) 2 2, .slice none 0 0, .slice none 0 0]] w' fun e w'' =>
    ∃ A c F d R k, e = .returned (.tuple #[.agg #[.slice A 0 c, .slice F 0 d, .slice R 0 k], .int .i64 70]) ∧ Below w'.heap.size w' w'' := by
  have K := lower_got _ _ w' h.gd
  rw [roLv.1, roLv.2.1, roLv.2.2, roLX] at K
  refine K.mono ?_
  rintro e w'' ⟨A, c, F, d, R, k, he, _, b⟩
  exact ⟨A, c, F, d, R, k, he, b⟩
set_option maxRecDepth 100000 in
set_option maxHeartbeats 8000000 in
theorem awakeL_any (w : World) (hT : DTab w) : Calls Tryz.prog 9 #[] w fun e w' => e = .returned (.bool true) ∧ Below w.heap.size w w' := by
  have H0 := Lib.hid (StQE.start w hT)
  have K1 := Lib.hid (fun w' (h : StQE w w') => ex_got h)
  have HT := Lib.hid hT
  clear hT
  go_enter Tryz.func9, Tryz.ntmps9
  go_wp2_with fail
  obtain ⟨w1, hw1⟩ : ∃ w1, w1 = (((w.alloc (.cells #[.int .i64 0, .int .i64 0, .int .i64 2, .int .i64 0, .int .i64 0, .int .i64 5] 62)).alloc (.cells #[.int .i64 0, .int .i64 1, .int .i64 3] 67)).alloc (.cells #[.int .i64 8, .int .i64 8, .slice (some ⟨w.heap.size, 0, none⟩) 2 2, .slice none 0 0, .slice (some ⟨w.heap.size + 1, 0, none⟩) 1 1, .slice none 0 0] 27)) := ⟨_, rfl⟩
  rw [← hw1] at H0 ⊢
  clear hw1
  refine (K1.out _ H0.out).mono ?_
  rintro e w2 ⟨A, c, F, d, R, k, rfl, hL, b2⟩
  obtain ⟨w3, hw3⟩ : ∃ w3, w3 = w2.alloc (.cells #[.slice A 3 c, .slice F 2 d, .slice R 3 k] 35) := ⟨_, rfl⟩
  have hS3 := StQL.start (H0.out.bel.trans (b2.mono H0.out.bel.size)) hL
  rw [← hw3] at hS3
  have S3 := Lib.hid hS3
  have s3 : w3.heap.size = w2.heap.size + 1 := by rw [hw3]; simp
  have hR := StQR.start w3 (w2.heap.size + 1) s3 (HT.out.via hS3.bel)
  obtain ⟨w4, hw4⟩ : ∃ w4, w4 = (((w3.alloc (.cells #[.int .i64 0, .int .i64 0, .int .i64 2, .int .i64 0, .int .i64 0, .int .i64 5] 62)).alloc (.cells #[.int .i64 0, .int .i64 1, .int .i64 1, .int .i64 0] 69)).alloc (.cells #[.int .i64 8, .int .i64 8, .slice (some ⟨w2.heap.size + 1, 0, none⟩) 2 2, .slice (some ⟨w2.heap.size + 1 + 1, 0, none⟩) 2 2, .slice none 0 0, .slice none 0 0] 27)) := ⟨_, rfl⟩
  rw [← hw4] at hR
  have S4 := Lib.hid (hS3.next (hR.bel.mono (by omega)))
  have CR := Lib.hid (ro_got hR)
  have HW := Lib.hid (And.intro hw3 hw4)
  clear hS3 hR hw3 hw4 hL b2 K1 H0 S3 HT s3
  go_wp2_with fail
  rw [← HW.out.1]
  rw [← HW.out.2]
  clear HW
  refine CR.out.mono ?_
  rintro e w5 ⟨A', c', F', d', R', k', rfl, b5⟩
  have hS5 := S4.out.next b5
  clear b5 S4 CR
  obtain ⟨w6, hw6⟩ : ∃ w6, w6 = w5.alloc (.cells #[.slice A' 0 c', .slice F' 0 d', .slice R' 0 k'] 35) := ⟨_, rfl⟩
  have hS6 := hS5.next (below_alloc (w := w5) (.cells #[.slice A' 0 c', .slice F' 0 d', .slice R' 0 k'] 35))
  rw [← hw6] at hS6
  obtain ⟨b1, o1, rfl, hb1, hI⟩ := hS5.l.g.ints (by decide)
  have S6 := Lib.hid hS6
  have HW := Lib.hid hw6
  have q1 := hI 1 (by decide)
  have q2 := hI 2 (by decide)
  simp at q1 q2
  obtain ⟨c0, c1, c2⟩ := hS5.cells
  have hg := World.block_lt_of_cell? _ _ c0
  simp only at hg
  clear hw6 hI hS5 hS6
  go_wp2_with fail
  rw [← HW.out]
  clear HW q1 q2 c0 c1 c2 hg hb1
  refine (nodeL_any w6 1 1 S6.out.l).mono ?_
  rintro e w7 ⟨rfl, b⟩
  rw [exLIdx]
  have S7 := Lib.hid (S6.out.next b)
  clear b S6
  obtain ⟨c0, c1, c2⟩ := S7.out.cells
  go_wp2_with fail
  refine (lastL_any w7 0 (by decide) (by decide) S7.out.l).mono ?_
  rintro e w8 ⟨rfl, b⟩
  rw [exLLast0]
  have S8 := Lib.hid (S7.out.next b)
  clear b S7 c0 c1 c2
  obtain ⟨c0, c1, c2⟩ := S8.out.cells
  go_wp2_with fail
  refine (lastL_any w8 7 (by decide) (by decide) S8.out.l).mono ?_
  rintro e w9 ⟨rfl, b⟩
  rw [exLLast7]
  have S9 := Lib.hid (S8.out.next b)
  clear b S8 c0 c1 c2
  obtain ⟨c0, c1, c2⟩ := S9.out.cells
  go_wp2_with fail
  refine (sameL_any w9 S9.out.l S9.out.l).mono ?_
  rintro e wA ⟨rfl, b⟩
  rw [decide_eq_true (⟨⟨rfl, rfl⟩, rfl⟩ : (([2, 3, 2] : List Int) = [2, 3, 2] ∧ ([(1, 2), (0, 2)] : List (Int × Int)) = [(1, 2), (0, 2)]) ∧ ([(0, 0), (1, 0), (1, 1)] : List (Int × Int)) = [(0, 0), (1, 0), (1, 1)])]
  have SA := Lib.hid (S9.out.next b)
  clear b S9 c0 c1 c2
  obtain ⟨c0, c1, c2⟩ := SA.out.cells
  go_wp2_with fail
  refine (sameL_any wA SA.out.l (noL SA.out.l.g.tab)).mono ?_
  rintro e wB ⟨rfl, b⟩
  rw [decide_eq_false (show ¬ ((([2, 3, 2] : List Int) = [] ∧ ([(1, 2), (0, 2)] : List (Int × Int)) = []) ∧ ([(0, 0), (1, 0), (1, 1)] : List (Int × Int)) = []) by decide)]
  have SB := Lib.hid (SA.out.next b)
  clear b SA c0 c1 c2
  go_wp2_with fail
  go_ret
  exact ⟨rfl, SB.out.bel⟩
end Go.Proofs.YtmelgolnmnebpaaGreatDoor
