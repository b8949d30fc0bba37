/- The contract of trefoilref04.Plain in the seat YtpaambpajpmjdaaDoor. No statement is proved here. -/
import Derived.Test.YtpaambpajpmjdaaDoorZM4
import Derived.Test.YtpaambpajpmjdaaDoorZM2
set_option linter.unusedSimpArgs false
set_option linter.unusedVariables false
namespace Go.Proofs.YtpaambpajpmjdaaDoor
open Go.RowKit

def WorkOk (W : List Int) : Prop := ∀ z ∈ W, 0 ≤ z ∧ z ≤ 1000
open Classical in
/-- What is said of a graph, but for what leads round. -/
noncomputable def plainE (W : List Int) (E : List (Int × Int)) : Int :=
  if 64 < W.length ∨ 256 < E.length then 40 else if ¬ WorkOk W then 41 else if ¬ EdgesOk W.length E then 42 else 0
theorem plainE_zero {W : List Int} {E : List (Int × Int)} : plainE W E = 0 ↔ (W.length ≤ 64 ∧ E.length ≤ 256) ∧ WorkOk W ∧ EdgesOk W.length E := by
  unfold plainE
  split
  · constructor
    · intro h; cases h
    · rintro ⟨h, _⟩; omega
  · split
    · constructor
      · intro h; cases h
      · rintro ⟨_, h, _⟩; contradiction
    · split
      · constructor
        · intro h; cases h
        · rintro ⟨_, _, h⟩; contradiction
      · rename_i h1 h2 h3
        exact ⟨fun _ => ⟨by omega, Classical.not_not.mp h2, Classical.not_not.mp h3⟩, fun _ => rfl⟩
theorem plainE_many {W : List Int} {E : List (Int × Int)} (h : 64 < W.length ∨ 256 < E.length) : plainE W E = 40 := by unfold plainE; rw [if_pos h]
theorem plainE_work {W : List Int} {E : List (Int × Int)} (h : ¬ (64 < W.length ∨ 256 < E.length)) (h2 : ¬ WorkOk W) : plainE W E = 41 := by unfold plainE; rw [if_neg h, if_pos h2]
theorem plainE_edge {W : List Int} {E : List (Int × Int)} (h : ¬ (64 < W.length ∨ 256 < E.length)) (h2 : WorkOk W) (h3 : ¬ EdgesOk W.length E) : plainE W E = 42 := by unfold plainE; rw [if_neg h, if_neg (fun k => k h2), if_pos h3]
theorem workOk_snoc {W : List Int} {j : Nat} {z : Int} (h : W[j]? = some z) : WorkOk (W.take (j + 1)) ↔ WorkOk (W.take j) ∧ 0 ≤ z ∧ z ≤ 1000 := by
  rw [take_snoc' h]
  unfold WorkOk
  constructor
  · intro k
    exact ⟨fun x hx => k x (by simp [hx]), k z (by simp)⟩
  · rintro ⟨k1, k2⟩ x hx
    rcases List.mem_append.mp hx with hx | hx
    · exact k1 x hx
    · obtain rfl : x = z := by simpa using hx
      exact k2
/-- In the middle of a round: an edge lies in block g, all below base is as it was. -/
structure StE (base : Nat) (w0 : World) (g : Nat) (x y : Int) (w : World) : Prop where
  bel : Below base w0 w
  base : base ≤ w0.heap.size
  c0 : w.cell? ⟨g, 0, none⟩ = some (.int .i64 x)
  c1 : w.cell? ⟨g, 1, none⟩ = some (.int .i64 y)
theorem StE.cells {base : Nat} {w0 : World} {g : Nat} {x y : Int} {w : World} (h : StE base w0 g x y w) : w.cell? ⟨g, 0, none⟩ = some (.int .i64 x) ∧ w.cell? ⟨g, 1, none⟩ = some (.int .i64 y) := ⟨h.c0, h.c1⟩
theorem StE.lt {base : Nat} {w0 : World} {g : Nat} {x y : Int} {w : World} (h : StE base w0 g x y w) : g < w.heap.size := by
  rcases Nat.lt_or_ge g w.heap.size with hlt | hge
  · exact hlt
  · have := h.c0
    unfold World.cell? at this
    simp [Array.getElem?_eq_none hge] at this
theorem StE.below {base : Nat} {w0 : World} {g : Nat} {x y : Int} {w w' : World} (h : StE base w0 g x y w) (hb : Below w.heap.size w w') (hg : g < w.heap.size) : StE base w0 g x y w' :=
  ⟨h.bel.trans (hb.mono (Nat.le_trans h.base h.bel.size)), h.base, (hb.cell hg).trans h.c0, (hb.cell hg).trans h.c1⟩
theorem StE.box {w1 : World} {g : Nat} {x y : Int} {w0 w : World} {A F : Option Addr} {n c m d : Nat} (h : StE (w1.heap.size + 1) w0 g x y w) (h0 : w0 = w1.alloc (.cells #[.slice A n c, .slice F m d] 25)) :
    w.cell? ⟨w1.heap.size, 0, none⟩ = some (.slice A n c) ∧ w.cell? ⟨w1.heap.size, 1, none⟩ = some (.slice F m d) :=
  ⟨(h.bel.cell (Nat.lt_succ_self _)).trans (by rw [h0, World.cell?_alloc_at _ _ _ _ rfl]; rfl), (h.bel.cell (Nat.lt_succ_self _)).trans (by rw [h0, World.cell?_alloc_at _ _ _ _ rfl]; rfl)⟩
set_option maxRecDepth 100000 in
set_option maxHeartbeats 4000000 in
theorem plain_any (A F : Option Addr) (n c m d : Nat) (W : List Int) (E : List (Int × Int)) (w : World) (hn : W.length = n) (hl : n ≤ 1000) (hm : E.length = m) (hk : m ≤ 1000) (hI : Ints w w.heap.size A W) (hP : Pairs w w.heap.size F E) :
    Calls Tryd.prog 49 #[.agg #[.slice A n c, .slice F m d]] w fun e w' => e = .returned (.int .i64 (plainE W E)) ∧ Below w.heap.size w w' := by
  have HI := Lib.hid hI
  have HN := Lib.hid hn
  have HP := Lib.hid hP
  have HM := Lib.hid hm
  obtain ⟨r, hr⟩ : ∃ r, r = plainE W E := ⟨_, rfl⟩
  rw [← hr]
  have HR := Lib.hid hr
  clear hI hn hP hm hr
  by_cases hmany : 64 < n ∨ 256 < m
  · have HX := Lib.hid (plainE_many (W := W) (E := E) (by rw [HN.out, HM.out]; exact hmany))
    rcases (show 64 < n ∨ (n ≤ 64 ∧ 256 < m) by omega) with h | ⟨h, h2⟩
    · clear hmany
      go_enter Tryd.func49, Tryd.ntmps49
      go_wp2
      go_ret
      exact ⟨by rw [HR.out, HX.out]; rfl, below_alloc _⟩
    · clear hmany
      go_enter Tryd.func49, Tryd.ntmps49
      go_wp2
      go_ret
      exact ⟨by rw [HR.out, HX.out]; rfl, below_alloc _⟩
  · have HMANY : Hid (¬ (64 < W.length ∨ 256 < E.length)) := Lib.hid (by rw [HN.out, HM.out]; exact hmany)
    have hn64 : n ≤ 64 := by omega
    have hm256 : m ≤ 256 := by omega
    have C := Lib.hid (fun x W' => node_any A F n c m d x W')
    clear hmany
    go_enter Tryd.func49, Tryd.ntmps49
    go_wp2
    go_loop [3] (fun i => ∃ j : Nat, j ≤ n ∧ i = .int .i64 j ∧ Hid (WorkOk (W.take j))) (fun i => n - (intOf i).toNat)
    case atStart => exact ⟨0, Nat.zero_le _, rfl, Lib.hid (fun z hz => by simp at hz)⟩
    case round =>
      obtain ⟨j, hj, rfl, HO⟩ := hrel
      by_cases hlt : j < n
      · obtain ⟨bk, o, z, rfl, hbg, hzj, hc1⟩ := HI.out.at_ (k := j) (by rw [HN.out]; exact hlt)
        have HS := Lib.hid (workOk_snoc hzj)
        have HBAD := Lib.hid (fun h : ¬ (0 ≤ z ∧ z ≤ 1000) => plainE_work (W := W) (E := E) HMANY.out (fun k => h (k z (List.mem_of_getElem? hzj))))
        clear hzj
        by_cases h0 : z < 0
        · have HX := Lib.hid (HBAD.out (by omega))
          go_wp2
          go_ret
          exact ⟨by rw [HR.out, HX.out]; rfl, below_alloc _⟩
        · by_cases h1 : 1000 < z
          · have HX := Lib.hid (HBAD.out (by omega))
            go_wp2
            go_ret
            exact ⟨by rw [HR.out, HX.out]; rfl, below_alloc _⟩
          · have HX : Hid (WorkOk (W.take (j + 1))) := Lib.hid (HS.out.mpr ⟨HO.out, by omega, by omega⟩)
            have g0 : decide (z < 0) = false := decide_eq_false h0
            have g1 : decide (1000 < z) = false := decide_eq_false h1
            go_wp2
            go_round
            case rel => exact ⟨j + 1, by omega, by go_num, HX⟩
            case measure => simp [intOf]; omega
      · obtain rfl : j = n := by omega
        have HWO : Hid (WorkOk W) := Lib.hid (by have h := HO.out; rwa [List.take_of_length_le (by rw [HN.out]; omega)] at h)
        obtain ⟨w0, hw0⟩ : ∃ w0, w0 = w.alloc (.cells #[.slice A j c, .slice F m d] 25) := ⟨_, rfl⟩
        have HW0 := Lib.hid hw0
        clear hw0
        go_wp2
        go_loopw [4] (fun i wr => ∃ k : Nat, k ≤ m ∧ i = .int .i64 k ∧ Hid (EdgesOk j (E.take k)) ∧ Hid (Below (w.heap.size + 1) w0 wr)) (fun i _ => m - (intOf i).toNat)
        case atStart => exact ⟨0, Nat.zero_le _, rfl, Lib.hid ⟨fun e he => by simp at he, fun e he => by simp at he, by simp⟩, Lib.hid (by rw [HW0.out]; exact Below.refl _ _)⟩
        case round =>
          obtain ⟨k, hk2, rfl, HE, HB⟩ := hrel
          have hbox0 : wr.cell? ⟨w.heap.size, 0, none⟩ = some (.slice A j c) := (HB.out.cell (Nat.lt_succ_self _)).trans (by rw [HW0.out, World.cell?_alloc_at _ _ _ _ rfl]; rfl)
          have hbox1 : wr.cell? ⟨w.heap.size, 1, none⟩ = some (.slice F m d) := (HB.out.cell (Nat.lt_succ_self _)).trans (by rw [HW0.out, World.cell?_alloc_at _ _ _ _ rfl]; rfl)
          by_cases hlt2 : k < m
          · obtain ⟨bk, o, ⟨x, y⟩, rfl, hbg, hek, hc1, hc2⟩ := HP.out.at_ (k := k) (by rw [HM.out]; exact hlt2)
            simp only at hc1 hc2
            have hd1 : wr.cell? ⟨bk, o + k * 2, none⟩ = some (.int .i64 x) := (HB.out.cell (by show bk < _; omega)).trans (by rw [HW0.out, World.cell?_alloc_lt _ _ _ hbg]; exact hc1)
            have hd2 : wr.cell? ⟨bk, o + k * 2 + 1, none⟩ = some (.int .i64 y) := (HB.out.cell (by show bk < _; omega)).trans (by rw [HW0.out, World.cell?_alloc_lt _ _ _ hbg]; exact hc2)
            have hsz : w.heap.size + 1 ≤ wr.heap.size := by have := HB.out.size; rw [HW0.out] at this; simpa using this
            have HS := Lib.hid (edgesOk_snoc (n := j) hek)
            have HBAD := Lib.hid (fun h : ¬ EdgesOk j (E.take (k + 1)) => plainE_edge (W := W) (E := E) HMANY.out HWO.out (by rw [HN.out]; exact fun q => h (edgesOk_take q _)))
            clear hc1 hc2 hek
            have ST1 : Hid (StE (w.heap.size + 1) w0 wr.heap.size x y (wr.alloc (.cells #[.int .i64 x, .int .i64 y] 45))) := Lib.hid ⟨HB.out.alloc (by omega) _, by rw [HW0.out]; simp, by rw [World.cell?_alloc_at _ _ _ _ rfl]; rfl, by rw [World.cell?_alloc_at _ _ _ _ rfl]; rfl⟩
            have hsz2 : w.heap.size < wr.heap.size := by omega
            by_cases p1 : 0 ≤ x ∧ x < j
            · have C1 := Lib.hid (fun W' => C.out x W')
              rw [decide_eq_true p1] at C1
              by_cases p2 : 0 ≤ y ∧ y < j
              · have C2 := Lib.hid (fun W' => C.out y W')
                rw [decide_eq_true p2] at C2
                by_cases p3 : x = y
                · have HX := Lib.hid (HBAD.out (fun q => ((HS.out.mp q).2.2.2.1) p3))
                  subst p3
                  clear p1 p2
                  go_wp2_with fail
                  refine (C1.out _).mono ?_
                  rintro e w2 ⟨rfl, b2⟩
                  have ST2 := Lib.hid (ST1.out.below b2 (by rw [World.size_alloc]; omega))
                  clear b2
                  obtain ⟨hx0, hx1⟩ := ST2.out.cells
                  obtain ⟨hy0, hy1⟩ := ST2.out.box HW0.out
                  go_wp2_with fail
                  refine (C2.out _).mono ?_
                  rintro e w3 ⟨rfl, b3⟩
                  have ST3 := Lib.hid (ST2.out.below b3 ST2.out.lt)
                  clear b3 hx0 hx1 hy0 hy1
                  obtain ⟨hx0, hx1⟩ := ST3.out.cells
                  obtain ⟨hy0, hy1⟩ := ST3.out.box HW0.out
                  go_wp2
                  go_ret
                  exact ⟨by rw [HR.out, HX.out]; rfl, (below_alloc _).trans (by rw [← HW0.out]; exact ST3.out.bel.mono (by omega))⟩
                · have h3 : (x == y) = false := by simpa using p3
                  have HP3 := Lib.hid p3
                  have HP1 := Lib.hid p1
                  have HP2 := Lib.hid p2
                  clear p1 p2 p3
                  go_wp2_with fail
                  refine (C1.out _).mono ?_
                  rintro e w2 ⟨rfl, b2⟩
                  have ST2 := Lib.hid (ST1.out.below b2 (by rw [World.size_alloc]; omega))
                  clear b2
                  obtain ⟨hx0, hx1⟩ := ST2.out.cells
                  obtain ⟨hy0, hy1⟩ := ST2.out.box HW0.out
                  go_wp2_with fail
                  refine (C2.out _).mono ?_
                  rintro e w3 ⟨rfl, b3⟩
                  have ST3 := Lib.hid (ST2.out.below b3 ST2.out.lt)
                  clear b3 hx0 hx1 hy0 hy1
                  obtain ⟨hx0, hx1⟩ := ST3.out.cells
                  obtain ⟨hy0, hy1⟩ := ST3.out.box HW0.out
                  go_wp2
                  go_loopw [6] (fun i wq => ∃ q N : Nat, q ≤ k ∧ i = .int .i64 q ∧ Hid ((x, y) ∉ E.take q) ∧ wq = w3.drewN N) (fun i _ => k - (intOf i).toNat)
                  case atStart => exact ⟨0, 0, Nat.zero_le _, rfl, Lib.hid (by simp), rfl⟩
                  case round =>
                    obtain ⟨q, N, hq, rfl, HNO, rfl⟩ := hrel
                    by_cases hlt3 : q < k
                    · obtain ⟨bk2, o2, ⟨u, v⟩, hfe, hbg2, heq, hq1, hq2⟩ := HP.out.at_ (k := q) (by rw [HM.out]; omega)
                      obtain ⟨rfl, rfl⟩ : bk2 = bk ∧ o2 = o := by injection hfe with h; injection h with h1 h2 _; exact ⟨h1.symm, h2.symm⟩
                      clear hfe
                      simp only at hq1 hq2
                      have hr1 : w3.cell? ⟨bk2, o2 + q * 2, none⟩ = some (.int .i64 u) := (ST3.out.bel.cell (by show bk2 < _; omega)).trans (by rw [HW0.out, World.cell?_alloc_lt _ _ _ hbg2]; exact hq1)
                      have hr2 : w3.cell? ⟨bk2, o2 + q * 2 + 1, none⟩ = some (.int .i64 v) := (ST3.out.bel.cell (by show bk2 < _; omega)).trans (by rw [HW0.out, World.cell?_alloc_lt _ _ _ hbg2]; exact hq2)
                      have HEQ := Lib.hid heq
                      have HMS := Lib.hid (mem_take_snoc (x := (x, y)) heq)
                      have hrun := fun W => edge_eql_run u v x y W
                      have hkm : q < m := by omega
                      clear hq1 hq2 heq
                      by_cases huv : (u, v) = (x, y)
                      · injection huv with h1 h2
                        subst h1 h2
                        have hb : (u == u && v == v) = true := by simp
                        simp only [hb] at hrun
                        have HX := Lib.hid (HBAD.out (fun z => (HS.out.mp z).2.2.2.2 (by
                          have := List.mem_of_getElem? (l := E.take k) (i := q) (a := (u, v)) (by rw [List.getElem?_take, if_pos hlt3]; exact HEQ.out)
                          exact this)))
                        go_wp2
                        go_quiet (fail)
                        go_wp2
                        go_ret
                        exact ⟨by rw [HR.out, HX.out]; rfl, (below_alloc _).trans (by rw [← HW0.out]; exact (below_drewN (below_drewN ST3.out.bel _) _).mono (by omega))⟩
                      · have hb : (u == x && v == y) = false := by
                          rw [Bool.and_eq_false_iff]
                          by_cases h1 : u = x
                          · exact .inr (by simpa using fun h2 => huv (by rw [h1, h2]))
                          · exact .inl (by simpa using h1)
                        simp only [hb] at hrun
                        have HUV := Lib.hid huv
                        clear huv
                        go_wp2
                        go_quiet (fail)
                        go_wp2
                        go_roundw
                        case rel => exact ⟨q + 1, _, by omega, by go_num, Lib.hid (by rw [HMS.out]; rintro (h | h); exact HNO.out h; exact HUV.out h.symm), rfl⟩
                        case measure => simp [intOf]; omega
                    · obtain rfl : q = k := by omega
                      have HOK := Lib.hid (HS.out.mpr ⟨HE.out, HP1.out, HP2.out, HP3.out, HNO.out⟩)
                      go_wp2
                      go_roundw
                      case rel => exact ⟨q + 1, by omega, by go_num, HOK, Lib.hid (below_drewN ST3.out.bel N)⟩
                      case measure => simp [intOf]; omega
              · have C2 := Lib.hid (fun W' => C.out y W')
                rw [decide_eq_false p2] at C2
                have HX := Lib.hid (HBAD.out (fun q => p2 (HS.out.mp q).2.2.1))
                clear p1 p2
                go_wp2_with fail
                refine (C1.out _).mono ?_
                rintro e w2 ⟨rfl, b2⟩
                have ST2 := Lib.hid (ST1.out.below b2 (by rw [World.size_alloc]; omega))
                clear b2
                obtain ⟨hx0, hx1⟩ := ST2.out.cells
                obtain ⟨hy0, hy1⟩ := ST2.out.box HW0.out
                go_wp2_with fail
                refine (C2.out _).mono ?_
                rintro e w3 ⟨rfl, b3⟩
                have ST3 := Lib.hid (ST2.out.below b3 ST2.out.lt)
                clear b3
                go_wp2
                go_ret
                exact ⟨by rw [HR.out, HX.out]; rfl, (below_alloc _).trans (by rw [← HW0.out]; exact ST3.out.bel.mono (by omega))⟩
            · have C1 := Lib.hid (fun W' => C.out x W')
              rw [decide_eq_false p1] at C1
              have HX := Lib.hid (HBAD.out (fun q => p1 (HS.out.mp q).2.1))
              clear p1
              go_wp2_with fail
              refine (C1.out _).mono ?_
              rintro e w2 ⟨rfl, b2⟩
              have ST2 := Lib.hid (ST1.out.below b2 (by rw [World.size_alloc]; omega))
              clear b2
              go_wp2
              go_ret
              exact ⟨by rw [HR.out, HX.out]; rfl, (below_alloc _).trans (by rw [← HW0.out]; exact ST2.out.bel.mono (by omega))⟩
          · obtain rfl : k = m := by omega
            have HX : Hid (plainE W E = 0) := Lib.hid (plainE_zero.mpr ⟨by have := HMANY.out; omega, HWO.out, by
              have h := HE.out
              rw [List.take_of_length_le (by rw [HM.out]; omega)] at h
              rw [HN.out]
              exact h⟩)
            go_wp2
            go_ret
            exact ⟨by rw [HR.out, HX.out]; rfl, (below_alloc _).trans (by rw [← HW0.out]; exact HB.out.mono (by omega))⟩
end Go.Proofs.YtpaambpajpmjdaaDoor
