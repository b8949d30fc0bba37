/- The longest way, an edge more and an edge less: plain mathematics (parted out of LongMath in round 10), in the seat YtpaambpajpmjdaaDoor.
   The contract of awake of trefoillaw04 in the seat YtpaambpajpmjdaaDoor.
   No statement is proved here. -/
import Derived.Test.YtpaambpajpmjdaaDoorZDagLaw
set_option linter.unusedSimpArgs false
set_option linter.unusedVariables false
namespace Go.Proofs.YtpaambpajpmjdaaDoor
open Go.RowKit

section
variable {W : List Int} {E : List (Int × Int)}
theorem longV_is (hM : May W E) : IsLong W E (longV W E) := by
  unfold longV
  rw [if_pos hM]
  exact long_is hM.fits hM.acyc (fun z hz => (hM.work z hz).1)
theorem totalV_is (hM : May W E) : totalV W E = W.sum := by
  unfold totalV
  rw [if_pos hM]
theorem in_of {n : Nat} (hF : Fits n E) {p : List Nat} (hp : Up E p) (h1 : ∀ b, p = [b] → b < n) : In n p := hp.lt hF h1
theorem longV_total (hM : May W E) : longV W E ≤ W.sum ∧ 0 ≤ longV W E := by
  have h := longV_is hM
  rcases h.2 with ⟨hw, h0⟩ | ⟨p, hp, hi, he⟩
  · rw [h0, hw]
    exact ⟨Int.le_refl _, Int.le_refl _⟩
  · rw [← he]
    exact ⟨wsum_le (fun z hz => (hM.work z hz).1) (hp.nodup hM.acyc) hi, wsum_pos hM.work p⟩
theorem longV_node (hM : May W E) {k : Nat} {z : Int} (hk : W[k]? = some z) : z ≤ longV W E := by
  have h := (longV_is hM).1 [k] trivial (fun x hx => by
    obtain rfl : x = k := by simpa using hx
    rcases Nat.lt_or_ge x W.length with h | h
    · exact h
    · rw [List.getElem?_eq_none h] at hk; cases hk)
  simpa [wsum, List.getD_eq_getElem?_getD, hk] using h
theorem longV_edge (hM : May W E) {x y : Nat} {a b : Int} (he : ((x : Int), (y : Int)) ∈ E) (hx : W[x]? = some a) (hy : W[y]? = some b) : a + b ≤ longV W E := by
  have hl := ed_lt hM.fits he
  have h := (longV_is hM).1 [y, x] ⟨he, trivial⟩ (fun q hq => by
    rcases (by simpa using hq : q = y ∨ q = x) with rfl | rfl
    · exact hl.2
    · exact hl.1)
  simp [wsum, List.getD_eq_getElem?_getD, hx, hy] at h
  omega
theorem longV_mono {E' : List (Int × Int)} (hM : May W E) (hM' : May W E') (h : ∀ e ∈ E, e ∈ E') : longV W E ≤ longV W E' := by
  rcases (longV_is hM).2 with ⟨hw, h0⟩ | ⟨p, hp, hi, he⟩
  · rw [h0]
    exact (longV_total hM').2
  · rw [← he]
    exact (longV_is hM').1 p (Up.mono (fun a b hab => h _ hab) hp) hi
theorem May.erase (hM : May W E) (k : Nat) : May W (E.eraseIdx k) := by
  have hs : ∀ e ∈ E.eraseIdx k, e ∈ E := fun e he => (List.eraseIdx_sublist E k).mem he
  exact ⟨hM.nodes, Nat.le_trans (List.eraseIdx_sublist E k).length_le hM.edges, hM.work, fun e he => hM.fits e (hs e he), fun e he => hM.apart e (hs e he), hM.once.sublist (List.eraseIdx_sublist E k), hM.acyc.mono fun a b h => hs _ h⟩
theorem longV_erase (hM : May W E) (k : Nat) : longV W (E.eraseIdx k) ≤ longV W E :=
  longV_mono (hM.erase k) hM fun e he => (List.eraseIdx_sublist E k).mem he
end
end Go.Proofs.YtpaambpajpmjdaaDoor
set_option linter.unusedVariables false
namespace Go.Proofs.YtpaambpajpmjdaaDoor
open Go.RowKit

theorem Pairs.new2 (w : World) (t : TypeId) (a b c d : Int) : Pairs (w.alloc (.cells #[.int .i64 a, .int .i64 b, .int .i64 c, .int .i64 d] t)) (w.heap.size + 1) (some ⟨w.heap.size, 0, none⟩) [(a, b), (c, d)] := fun _ => by
  refine ⟨_, _, rfl, by simp, fun k e he => ?_⟩
  rw [World.cell?_alloc_at _ _ _ _ rfl, World.cell?_alloc_at _ _ _ _ rfl]
  match k, he with
  | 0, he =>
    obtain rfl : (a, b) = e := by simpa using he
    exact ⟨rfl, rfl⟩
  | 1, he =>
    obtain rfl : (c, d) = e := by simpa using he
    exact ⟨rfl, rfl⟩
structure StA (w w' : World) : Prop where
  bel : Below w.heap.size w w'
  d0 : w'.cell? ⟨w.heap.size + 1 + 1, 0, none⟩ = some (.slice (some ⟨w.heap.size, 0, none⟩) 3 3)
  d1 : w'.cell? ⟨w.heap.size + 1 + 1, 1, none⟩ = some (.slice (some ⟨w.heap.size + 1, 0, none⟩) 2 2)
  r0 : w'.cell? ⟨w.heap.size + 1 + 1 + 1 + 1 + 1, 0, none⟩ = some (.slice (some ⟨w.heap.size + 1 + 1 + 1, 0, none⟩) 2 2)
  r1 : w'.cell? ⟨w.heap.size + 1 + 1 + 1 + 1 + 1, 1, none⟩ = some (.slice (some ⟨w.heap.size + 1 + 1 + 1 + 1, 0, none⟩) 2 2)
  gd : IsG w' (some ⟨w.heap.size, 0, none⟩) 3 3 (some ⟨w.heap.size + 1, 0, none⟩) 2 2 exW exE
  gr : IsG w' (some ⟨w.heap.size + 1 + 1 + 1, 0, none⟩) 2 2 (some ⟨w.heap.size + 1 + 1 + 1 + 1, 0, none⟩) 2 2 roW roE
theorem StA.next {w w1 w2 : World} (h : StA w w1) (hb : Below w1.heap.size w1 w2) : StA w w2 :=
  ⟨h.bel.trans (hb.mono h.bel.size), (hb.cell (World.block_lt_of_cell? _ _ h.d0)).trans h.d0, (hb.cell (World.block_lt_of_cell? _ _ h.d1)).trans h.d1, (hb.cell (World.block_lt_of_cell? _ _ h.r0)).trans h.r0, (hb.cell (World.block_lt_of_cell? _ _ h.r1)).trans h.r1, h.gd.below hb, h.gr.below hb⟩
theorem StA.cells {w w1 : World} (h : StA w w1) : w1.cell? ⟨w.heap.size + 1 + 1, 0, none⟩ = some (.slice (some ⟨w.heap.size, 0, none⟩) 3 3) ∧ w1.cell? ⟨w.heap.size + 1 + 1, 1, none⟩ = some (.slice (some ⟨w.heap.size + 1, 0, none⟩) 2 2) ∧
    w1.cell? ⟨w.heap.size + 1 + 1 + 1 + 1 + 1, 0, none⟩ = some (.slice (some ⟨w.heap.size + 1 + 1 + 1, 0, none⟩) 2 2) ∧ w1.cell? ⟨w.heap.size + 1 + 1 + 1 + 1 + 1, 1, none⟩ = some (.slice (some ⟨w.heap.size + 1 + 1 + 1 + 1, 0, none⟩) 2 2) := ⟨h.d0, h.d1, h.r0, h.r1⟩
theorem StA.start (w : World) (hT : Tab64 w) : StA w ((((((w.alloc (.cells #[.int .i64 2, .int .i64 3, .int .i64 4] 3)).alloc (.cells #[.int .i64 0, .int .i64 2, .int .i64 1, .int .i64 2] 45)).alloc
    (.cells #[.slice (some ⟨w.heap.size, 0, none⟩) 3 3, .slice (some ⟨w.heap.size + 1, 0, none⟩) 2 2] 25)).alloc (.cells #[.int .i64 1, .int .i64 1] 3)).alloc (.cells #[.int .i64 0, .int .i64 1, .int .i64 1, .int .i64 0] 45)).alloc
    (.cells #[.slice (some ⟨w.heap.size + 1 + 1 + 1, 0, none⟩) 2 2, .slice (some ⟨w.heap.size + 1 + 1 + 1 + 1, 0, none⟩) 2 2] 25)) := by
  obtain ⟨w1, h1⟩ : ∃ w1, w1 = w.alloc (.cells #[.int .i64 2, .int .i64 3, .int .i64 4] 3) := ⟨_, rfl⟩
  obtain ⟨w2, h2⟩ : ∃ w2, w2 = w1.alloc (.cells #[.int .i64 0, .int .i64 2, .int .i64 1, .int .i64 2] 45) := ⟨_, rfl⟩
  obtain ⟨w3, h3⟩ : ∃ w3, w3 = w2.alloc (.cells #[.slice (some ⟨w.heap.size, 0, none⟩) 3 3, .slice (some ⟨w.heap.size + 1, 0, none⟩) 2 2] 25) := ⟨_, rfl⟩
  obtain ⟨w4, h4⟩ : ∃ w4, w4 = w3.alloc (.cells #[.int .i64 1, .int .i64 1] 3) := ⟨_, rfl⟩
  obtain ⟨w5, h5⟩ : ∃ w5, w5 = w4.alloc (.cells #[.int .i64 0, .int .i64 1, .int .i64 1, .int .i64 0] 45) := ⟨_, rfl⟩
  obtain ⟨w6, h6⟩ : ∃ w6, w6 = w5.alloc (.cells #[.slice (some ⟨w.heap.size + 1 + 1 + 1, 0, none⟩) 2 2, .slice (some ⟨w.heap.size + 1 + 1 + 1 + 1, 0, none⟩) 2 2] 25) := ⟨_, rfl⟩
  rw [← h1, ← h2, ← h3, ← h4, ← h5, ← h6]
  have s1 : w1.heap.size = w.heap.size + 1 := by rw [h1]; simp
  have s2 : w2.heap.size = w.heap.size + 1 + 1 := by rw [h2]; simp [s1]
  have s3 : w3.heap.size = w.heap.size + 1 + 1 + 1 := by rw [h3]; simp [s2]
  have s4 : w4.heap.size = w.heap.size + 1 + 1 + 1 + 1 := by rw [h4]; simp [s3]
  have s5 : w5.heap.size = w.heap.size + 1 + 1 + 1 + 1 + 1 := by rw [h5]; simp [s4]
  have b5 : Below w5.heap.size w5 w6 := by rw [h6]; exact below_alloc _
  have b4 : Below w4.heap.size w4 w6 := (by rw [h5]; exact below_alloc _ : Below w4.heap.size w4 w5).trans (b5.mono (by omega))
  have b3 : Below w3.heap.size w3 w6 := (by rw [h4]; exact below_alloc _ : Below w3.heap.size w3 w4).trans (b4.mono (by omega))
  have b2 : Below w2.heap.size w2 w6 := (by rw [h3]; exact below_alloc _ : Below w2.heap.size w2 w3).trans (b3.mono (by omega))
  have b1 : Below w1.heap.size w1 w6 := (by rw [h2]; exact below_alloc _ : Below w1.heap.size w1 w2).trans (b2.mono (by omega))
  have b0 : Below w.heap.size w w6 := (by rw [h1]; exact below_alloc _ : Below w.heap.size w w1).trans (b1.mono (by omega))
  have i1 : Ints w1 w1.heap.size (some ⟨w.heap.size, 0, none⟩) [2, 3, 4] := by
    have h := Ints.new3 w 3 2 3 4
    rw [← h1] at h
    exact h.more (by omega)
  have p2 : Pairs w2 w2.heap.size (some ⟨w.heap.size + 1, 0, none⟩) [(0, 2), (1, 2)] := by
    have h := Pairs.new2 w1 45 0 2 1 2
    rw [← h2, s1] at h
    exact h.more (by omega)
  have i4 : Ints w4 w4.heap.size (some ⟨w.heap.size + 1 + 1 + 1, 0, none⟩) [1, 1] := by
    have h := Ints.new2 w3 3 1 1
    rw [← h4, s3] at h
    exact h.more (by omega)
  have p5 : Pairs w5 w5.heap.size (some ⟨w.heap.size + 1 + 1 + 1 + 1, 0, none⟩) [(0, 1), (1, 0)] := by
    have h := Pairs.new2 w4 45 0 1 1 0
    rw [← h5, s4] at h
    exact h.more (by omega)
  refine ⟨b0, ?_, ?_, ?_, ?_, ⟨rfl, rfl, by decide, by decide, (i1.below b1).more b1.size, (p2.below b2).more b2.size, (fun e => by cases e), (fun e => by cases e), hT.via b0⟩, ⟨rfl, rfl, by decide, by decide, (i4.below b4).more b4.size, (p5.below b5).more b5.size, (fun e => by cases e), (fun e => by cases e), hT.via b0⟩⟩
  · refine (b3.cell (by show w.heap.size + 1 + 1 < w3.heap.size; omega)).trans ?_
    rw [h3, World.cell?_alloc_at _ _ _ _ s2.symm]; rfl
  · refine (b3.cell (by show w.heap.size + 1 + 1 < w3.heap.size; omega)).trans ?_
    rw [h3, World.cell?_alloc_at _ _ _ _ s2.symm]; rfl
  · rw [h6, World.cell?_alloc_at _ _ _ _ s5.symm]; rfl
  · rw [h6, World.cell?_alloc_at _ _ _ _ s5.symm]; rfl

theorem Ints.new1 (w : World) (t : TypeId) (a : Int) : Ints (w.alloc (.cells #[.int .i64 a] t)) (w.heap.size + 1) (some ⟨w.heap.size, 0, none⟩) [a] := fun _ => by
  refine ⟨_, _, rfl, by simp, fun k hk => ?_⟩
  match k, hk with
  | 0, _ => rw [World.cell?_alloc_at _ _ _ _ rfl]; rfl
theorem ints_lit {w : World} {A : Option Addr} {c n : Nat} {zs : List Int} {o : Obj} (hn : zs.length = n) (hl : n ≤ 900) (h1 : Ints w w.heap.size A zs) (h2 : Ints (w.alloc o) (w.heap.size + 1) (some ⟨w.heap.size, 0, none⟩) zs) :
    Calls Tryd.prog 20 #[.slice A n c, .slice (some ⟨w.heap.size, 0, none⟩) n n] (w.alloc o) fun e w' => e = .returned (.bool true) ∧ Below w.heap.size w w' := by
  subst hn
  refine (ints_any (w.heap.size + 1) A (some ⟨w.heap.size, 0, none⟩) c zs.length zs zs (w.alloc o) (by omega) (by omega) ((h1.alloc (Nat.le_refl _) o).more (by omega)) h2).mono ?_
  rintro e w' ⟨he, N, rfl⟩
  exact ⟨by rw [he, decide_eq_true rfl], below_drewN (below_alloc o) N⟩
end Go.Proofs.YtpaambpajpmjdaaDoor
