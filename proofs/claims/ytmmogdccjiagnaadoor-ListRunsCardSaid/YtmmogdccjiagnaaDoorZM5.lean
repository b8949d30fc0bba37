/- The contract of trefoilref04.Plain in the seat YtmmogdccjiagnaaDoor.
   The contract of trefoilref04.Check in the seat YtmmogdccjiagnaaDoor.
   The contract of trefoilref04.Order in the seat YtmmogdccjiagnaaDoor.
   The contract of trefoilref04.Long in the seat YtmmogdccjiagnaaDoor.
   What the walks of layer 4's laws ask of the program's functions, in the seat YtmmogdccjiagnaaDoor (proved elsewhere), and the contract of awake of trefoillaw04.
   No statement is proved here. -/
import Derived.Test.YtmmogdccjiagnaaDoorZM4
import Derived.BigRegion
import Derived.StillTailTactics
import Derived.Test.YtmmogdccjiagnaaDoorZM2
import Derived.Test.YtmmogdccjiagnaaDoorZM1
set_option linter.unusedSimpArgs false
set_option linter.unusedVariables false
namespace Go.Proofs.YtmmogdccjiagnaaDoor
open Go.RowKit

def WorkOk (W : List Int) : Prop := ∀ z ∈ W, 0 ≤ z ∧ z ≤ 1000
open Classical in
/-- What is said of a graph, but for what leads round. -/
noncomputable def plainE (W : List Int) (E : List (Int × Int)) : Int :=
  if 64 < W.length ∨ 256 < E.length then 40 else if ¬ WorkOk W then 41 else if ¬ EdgesOk W.length E then 42 else 0
theorem plainE_zero {W : List Int} {E : List (Int × Int)} : plainE W E = 0 ↔ (W.length ≤ 64 ∧ E.length ≤ 256) ∧ WorkOk W ∧ EdgesOk W.length E := by
  unfold plainE
  split
  · constructor
    · intro h; cases h
    · rintro ⟨h, _⟩; omega
  · split
    · constructor
      · intro h; cases h
      · rintro ⟨_, h, _⟩; contradiction
    · split
      · constructor
        · intro h; cases h
        · rintro ⟨_, _, h⟩; contradiction
      · rename_i h1 h2 h3
        exact ⟨fun _ => ⟨by omega, Classical.not_not.mp h2, Classical.not_not.mp h3⟩, fun _ => rfl⟩
theorem plainE_many {W : List Int} {E : List (Int × Int)} (h : 64 < W.length ∨ 256 < E.length) : plainE W E = 40 := by unfold plainE; rw [if_pos h]
theorem plainE_work {W : List Int} {E : List (Int × Int)} (h : ¬ (64 < W.length ∨ 256 < E.length)) (h2 : ¬ WorkOk W) : plainE W E = 41 := by unfold plainE; rw [if_neg h, if_pos h2]
theorem plainE_edge {W : List Int} {E : List (Int × Int)} (h : ¬ (64 < W.length ∨ 256 < E.length)) (h2 : WorkOk W) (h3 : ¬ EdgesOk W.length E) : plainE W E = 42 := by unfold plainE; rw [if_neg h, if_neg (fun k => k h2), if_pos h3]
theorem workOk_snoc {W : List Int} {j : Nat} {z : Int} (h : W[j]? = some z) : WorkOk (W.take (j + 1)) ↔ WorkOk (W.take j) ∧ 0 ≤ z ∧ z ≤ 1000 := by
  rw [take_snoc' h]
  unfold WorkOk
  constructor
  · intro k
    exact ⟨fun x hx => k x (by simp [hx]), k z (by simp)⟩
  · rintro ⟨k1, k2⟩ x hx
    rcases List.mem_append.mp hx with hx | hx
    · exact k1 x hx
    · obtain rfl : x = z := by simpa using hx
      exact k2
/-- In the middle of a round: an edge lies in block g, all below base is as it was. -/
structure StE (base : Nat) (w0 : World) (g : Nat) (x y : Int) (w : World) : Prop where
  bel : Below base w0 w
  base : base ≤ w0.heap.size
  c0 : w.cell? ⟨g, 0, none⟩ = some (.int .i64 x)
  c1 : w.cell? ⟨g, 1, none⟩ = some (.int .i64 y)
theorem StE.cells {base : Nat} {w0 : World} {g : Nat} {x y : Int} {w : World} (h : StE base w0 g x y w) : w.cell? ⟨g, 0, none⟩ = some (.int .i64 x) ∧ w.cell? ⟨g, 1, none⟩ = some (.int .i64 y) := ⟨h.c0, h.c1⟩
theorem StE.lt {base : Nat} {w0 : World} {g : Nat} {x y : Int} {w : World} (h : StE base w0 g x y w) : g < w.heap.size := by
  rcases Nat.lt_or_ge g w.heap.size with hlt | hge
  · exact hlt
  · have := h.c0
    unfold World.cell? at this
    simp [Array.getElem?_eq_none hge] at this
theorem StE.below {base : Nat} {w0 : World} {g : Nat} {x y : Int} {w w' : World} (h : StE base w0 g x y w) (hb : Below w.heap.size w w') (hg : g < w.heap.size) : StE base w0 g x y w' :=
  ⟨h.bel.trans (hb.mono (Nat.le_trans h.base h.bel.size)), h.base, (hb.cell hg).trans h.c0, (hb.cell hg).trans h.c1⟩
theorem StE.box {w1 : World} {g : Nat} {x y : Int} {w0 w : World} {A F : Option Addr} {n c m d : Nat} (h : StE (w1.heap.size + 1) w0 g x y w) (h0 : w0 = w1.alloc (.cells #[.slice A n c, .slice F m d] 25)) :
    w.cell? ⟨w1.heap.size, 0, none⟩ = some (.slice A n c) ∧ w.cell? ⟨w1.heap.size, 1, none⟩ = some (.slice F m d) :=
  ⟨(h.bel.cell (Nat.lt_succ_self _)).trans (by rw [h0, World.cell?_alloc_at _ _ _ _ rfl]; rfl), (h.bel.cell (Nat.lt_succ_self _)).trans (by rw [h0, World.cell?_alloc_at _ _ _ _ rfl]; rfl)⟩
set_option maxRecDepth 100000 in
set_option maxHeartbeats 4000000 in
theorem plain_any (A F : Option Addr) (n c m d : Nat) (W : List Int) (E : List (Int × Int)) (w : World) (hn : W.length = n) (hl : n ≤ 1000) (hm : E.length = m) (hk : m ≤ 1000) (hI : Ints w w.heap.size A W) (hP : Pairs w w.heap.size F E) :
    Calls Tryd.prog 65 #[.agg #[.slice A n c, .slice F m d]] w fun e w' => e = .returned (.int .i64 (plainE W E)) ∧ Below w.heap.size w w' := by
  have HI := Lib.hid hI
  have HN := Lib.hid hn
  have HP := Lib.hid hP
  have HM := Lib.hid hm
  obtain ⟨r, hr⟩ : ∃ r, r = plainE W E := ⟨_, rfl⟩
  rw [← hr]
  have HR := Lib.hid hr
  clear hI hn hP hm hr
  by_cases hmany : 64 < n ∨ 256 < m
  · have HX := Lib.hid (plainE_many (W := W) (E := E) (by rw [HN.out, HM.out]; exact hmany))
    rcases (show 64 < n ∨ (n ≤ 64 ∧ 256 < m) by omega) with h | ⟨h, h2⟩
    · clear hmany
      go_enter Tryd.func65, Tryd.ntmps65
      go_wp2
      go_ret
      exact ⟨by rw [HR.out, HX.out]; rfl, below_alloc _⟩
    · clear hmany
      go_enter Tryd.func65, Tryd.ntmps65
      go_wp2
      go_ret
      exact ⟨by rw [HR.out, HX.out]; rfl, below_alloc _⟩
  · have HMANY : Hid (¬ (64 < W.length ∨ 256 < E.length)) := Lib.hid (by rw [HN.out, HM.out]; exact hmany)
    have hn64 : n ≤ 64 := by omega
    have hm256 : m ≤ 256 := by omega
    have C := Lib.hid (fun x W' => node_any A F n c m d x W')
    clear hmany
    go_enter Tryd.func65, Tryd.ntmps65
    go_wp2
    go_loop [3] (fun i => ∃ j : Nat, j ≤ n ∧ i = .int .i64 j ∧ Hid (WorkOk (W.take j))) (fun i => n - (intOf i).toNat)
    case atStart => exact ⟨0, Nat.zero_le _, rfl, Lib.hid (fun z hz => by simp at hz)⟩
    case round =>
      obtain ⟨j, hj, rfl, HO⟩ := hrel
      by_cases hlt : j < n
      · obtain ⟨bk, o, z, rfl, hbg, hzj, hc1⟩ := HI.out.at_ (k := j) (by rw [HN.out]; exact hlt)
        have HS := Lib.hid (workOk_snoc hzj)
        have HBAD := Lib.hid (fun h : ¬ (0 ≤ z ∧ z ≤ 1000) => plainE_work (W := W) (E := E) HMANY.out (fun k => h (k z (List.mem_of_getElem? hzj))))
        clear hzj
        by_cases h0 : z < 0
        · have HX := Lib.hid (HBAD.out (by omega))
          go_wp2
          go_ret
          exact ⟨by rw [HR.out, HX.out]; rfl, below_alloc _⟩
        · by_cases h1 : 1000 < z
          · have HX := Lib.hid (HBAD.out (by omega))
            go_wp2
            go_ret
            exact ⟨by rw [HR.out, HX.out]; rfl, below_alloc _⟩
          · have HX : Hid (WorkOk (W.take (j + 1))) := Lib.hid (HS.out.mpr ⟨HO.out, by omega, by omega⟩)
            have g0 : decide (z < 0) = false := decide_eq_false h0
            have g1 : decide (1000 < z) = false := decide_eq_false h1
            go_wp2
            go_round
            case rel => exact ⟨j + 1, by omega, by go_num, HX⟩
            case measure => simp [intOf]; omega
      · obtain rfl : j = n := by omega
        have HWO : Hid (WorkOk W) := Lib.hid (by have h := HO.out; rwa [List.take_of_length_le (by rw [HN.out]; omega)] at h)
        obtain ⟨w0, hw0⟩ : ∃ w0, w0 = w.alloc (.cells #[.slice A j c, .slice F m d] 25) := ⟨_, rfl⟩
        have HW0 := Lib.hid hw0
        clear hw0
        go_wp2
        go_loopw [4] (fun i wr => ∃ k : Nat, k ≤ m ∧ i = .int .i64 k ∧ Hid (EdgesOk j (E.take k)) ∧ Hid (Below (w.heap.size + 1) w0 wr)) (fun i _ => m - (intOf i).toNat)
        case atStart => exact ⟨0, Nat.zero_le _, rfl, Lib.hid ⟨fun e he => by simp at he, fun e he => by simp at he, by simp⟩, Lib.hid (by rw [HW0.out]; exact Below.refl _ _)⟩
        case round =>
          obtain ⟨k, hk2, rfl, HE, HB⟩ := hrel
          have hbox0 : wr.cell? ⟨w.heap.size, 0, none⟩ = some (.slice A j c) := (HB.out.cell (Nat.lt_succ_self _)).trans (by rw [HW0.out, World.cell?_alloc_at _ _ _ _ rfl]; rfl)
          have hbox1 : wr.cell? ⟨w.heap.size, 1, none⟩ = some (.slice F m d) := (HB.out.cell (Nat.lt_succ_self _)).trans (by rw [HW0.out, World.cell?_alloc_at _ _ _ _ rfl]; rfl)
          by_cases hlt2 : k < m
          · obtain ⟨bk, o, ⟨x, y⟩, rfl, hbg, hek, hc1, hc2⟩ := HP.out.at_ (k := k) (by rw [HM.out]; exact hlt2)
            simp only at hc1 hc2
            have hd1 : wr.cell? ⟨bk, o + k * 2, none⟩ = some (.int .i64 x) := (HB.out.cell (by show bk < _; omega)).trans (by rw [HW0.out, World.cell?_alloc_lt _ _ _ hbg]; exact hc1)
            have hd2 : wr.cell? ⟨bk, o + k * 2 + 1, none⟩ = some (.int .i64 y) := (HB.out.cell (by show bk < _; omega)).trans (by rw [HW0.out, World.cell?_alloc_lt _ _ _ hbg]; exact hc2)
            have hsz : w.heap.size + 1 ≤ wr.heap.size := by have := HB.out.size; rw [HW0.out] at this; simpa using this
            have HS := Lib.hid (edgesOk_snoc (n := j) hek)
            have HBAD := Lib.hid (fun h : ¬ EdgesOk j (E.take (k + 1)) => plainE_edge (W := W) (E := E) HMANY.out HWO.out (by rw [HN.out]; exact fun q => h (edgesOk_take q _)))
            clear hc1 hc2 hek
            have ST1 : Hid (StE (w.heap.size + 1) w0 wr.heap.size x y (wr.alloc (.cells #[.int .i64 x, .int .i64 y] 106))) := Lib.hid ⟨HB.out.alloc (by omega) _, by rw [HW0.out]; simp, by rw [World.cell?_alloc_at _ _ _ _ rfl]; rfl, by rw [World.cell?_alloc_at _ _ _ _ rfl]; rfl⟩
            have hsz2 : w.heap.size < wr.heap.size := by omega
            by_cases p1 : 0 ≤ x ∧ x < j
            · have C1 := Lib.hid (fun W' => C.out x W')
              rw [decide_eq_true p1] at C1
              by_cases p2 : 0 ≤ y ∧ y < j
              · have C2 := Lib.hid (fun W' => C.out y W')
                rw [decide_eq_true p2] at C2
                by_cases p3 : x = y
                · have HX := Lib.hid (HBAD.out (fun q => ((HS.out.mp q).2.2.2.1) p3))
                  subst p3
                  clear p1 p2
                  go_wp2_with fail
                  refine (C1.out _).mono ?_
                  rintro e w2 ⟨rfl, b2⟩
                  have ST2 := Lib.hid (ST1.out.below b2 (by rw [World.size_alloc]; omega))
                  clear b2
                  obtain ⟨hx0, hx1⟩ := ST2.out.cells
                  obtain ⟨hy0, hy1⟩ := ST2.out.box HW0.out
                  go_wp2_with fail
                  refine (C2.out _).mono ?_
                  rintro e w3 ⟨rfl, b3⟩
                  have ST3 := Lib.hid (ST2.out.below b3 ST2.out.lt)
                  clear b3 hx0 hx1 hy0 hy1
                  obtain ⟨hx0, hx1⟩ := ST3.out.cells
                  obtain ⟨hy0, hy1⟩ := ST3.out.box HW0.out
                  go_wp2
                  go_ret
                  exact ⟨by rw [HR.out, HX.out]; rfl, (below_alloc _).trans (by rw [← HW0.out]; exact ST3.out.bel.mono (by omega))⟩
                · have h3 : (x == y) = false := by simpa using p3
                  have HP3 := Lib.hid p3
                  have HP1 := Lib.hid p1
                  have HP2 := Lib.hid p2
                  clear p1 p2 p3
                  go_wp2_with fail
                  refine (C1.out _).mono ?_
                  rintro e w2 ⟨rfl, b2⟩
                  have ST2 := Lib.hid (ST1.out.below b2 (by rw [World.size_alloc]; omega))
                  clear b2
                  obtain ⟨hx0, hx1⟩ := ST2.out.cells
                  obtain ⟨hy0, hy1⟩ := ST2.out.box HW0.out
                  go_wp2_with fail
                  refine (C2.out _).mono ?_
                  rintro e w3 ⟨rfl, b3⟩
                  have ST3 := Lib.hid (ST2.out.below b3 ST2.out.lt)
                  clear b3 hx0 hx1 hy0 hy1
                  obtain ⟨hx0, hx1⟩ := ST3.out.cells
                  obtain ⟨hy0, hy1⟩ := ST3.out.box HW0.out
                  go_wp2
                  go_loopw [6] (fun i wq => ∃ q N : Nat, q ≤ k ∧ i = .int .i64 q ∧ Hid ((x, y) ∉ E.take q) ∧ wq = w3.drewN N) (fun i _ => k - (intOf i).toNat)
                  case atStart => exact ⟨0, 0, Nat.zero_le _, rfl, Lib.hid (by simp), rfl⟩
                  case round =>
                    obtain ⟨q, N, hq, rfl, HNO, rfl⟩ := hrel
                    by_cases hlt3 : q < k
                    · obtain ⟨bk2, o2, ⟨u, v⟩, hfe, hbg2, heq, hq1, hq2⟩ := HP.out.at_ (k := q) (by rw [HM.out]; omega)
                      obtain ⟨rfl, rfl⟩ : bk2 = bk ∧ o2 = o := by injection hfe with h; injection h with h1 h2 _; exact ⟨h1.symm, h2.symm⟩
                      clear hfe
                      simp only at hq1 hq2
                      have hr1 : w3.cell? ⟨bk2, o2 + q * 2, none⟩ = some (.int .i64 u) := (ST3.out.bel.cell (by show bk2 < _; omega)).trans (by rw [HW0.out, World.cell?_alloc_lt _ _ _ hbg2]; exact hq1)
                      have hr2 : w3.cell? ⟨bk2, o2 + q * 2 + 1, none⟩ = some (.int .i64 v) := (ST3.out.bel.cell (by show bk2 < _; omega)).trans (by rw [HW0.out, World.cell?_alloc_lt _ _ _ hbg2]; exact hq2)
                      have HEQ := Lib.hid heq
                      have HMS := Lib.hid (mem_take_snoc (x := (x, y)) heq)
                      have hrun := fun W => edge_eql_run u v x y W
                      have hkm : q < m := by omega
                      clear hq1 hq2 heq
                      by_cases huv : (u, v) = (x, y)
                      · injection huv with h1 h2
                        subst h1 h2
                        have hb : (u == u && v == v) = true := by simp
                        simp only [hb] at hrun
                        have HX := Lib.hid (HBAD.out (fun z => (HS.out.mp z).2.2.2.2 (by
                          have := List.mem_of_getElem? (l := E.take k) (i := q) (a := (u, v)) (by rw [List.getElem?_take, if_pos hlt3]; exact HEQ.out)
                          exact this)))
                        go_wp2
                        go_quiet (fail)
                        go_wp2
                        go_ret
                        exact ⟨by rw [HR.out, HX.out]; rfl, (below_alloc _).trans (by rw [← HW0.out]; exact (below_drewN (below_drewN ST3.out.bel _) _).mono (by omega))⟩
                      · have hb : (u == x && v == y) = false := by
                          rw [Bool.and_eq_false_iff]
                          by_cases h1 : u = x
                          · exact .inr (by simpa using fun h2 => huv (by rw [h1, h2]))
                          · exact .inl (by simpa using h1)
                        simp only [hb] at hrun
                        have HUV := Lib.hid huv
                        clear huv
                        go_wp2
                        go_quiet (fail)
                        go_wp2
                        go_roundw
                        case rel => exact ⟨q + 1, _, by omega, by go_num, Lib.hid (by rw [HMS.out]; rintro (h | h); exact HNO.out h; exact HUV.out h.symm), rfl⟩
                        case measure => simp [intOf]; omega
                    · obtain rfl : q = k := by omega
                      have HOK := Lib.hid (HS.out.mpr ⟨HE.out, HP1.out, HP2.out, HP3.out, HNO.out⟩)
                      go_wp2
                      go_roundw
                      case rel => exact ⟨q + 1, by omega, by go_num, HOK, Lib.hid (below_drewN ST3.out.bel N)⟩
                      case measure => simp [intOf]; omega
              · have C2 := Lib.hid (fun W' => C.out y W')
                rw [decide_eq_false p2] at C2
                have HX := Lib.hid (HBAD.out (fun q => p2 (HS.out.mp q).2.2.1))
                clear p1 p2
                go_wp2_with fail
                refine (C1.out _).mono ?_
                rintro e w2 ⟨rfl, b2⟩
                have ST2 := Lib.hid (ST1.out.below b2 (by rw [World.size_alloc]; omega))
                clear b2
                obtain ⟨hx0, hx1⟩ := ST2.out.cells
                obtain ⟨hy0, hy1⟩ := ST2.out.box HW0.out
                go_wp2_with fail
                refine (C2.out _).mono ?_
                rintro e w3 ⟨rfl, b3⟩
                have ST3 := Lib.hid (ST2.out.below b3 ST2.out.lt)
                clear b3
                go_wp2
                go_ret
                exact ⟨by rw [HR.out, HX.out]; rfl, (below_alloc _).trans (by rw [← HW0.out]; exact ST3.out.bel.mono (by omega))⟩
            · have C1 := Lib.hid (fun W' => C.out x W')
              rw [decide_eq_false p1] at C1
              have HX := Lib.hid (HBAD.out (fun q => p1 (HS.out.mp q).2.1))
              clear p1
              go_wp2_with fail
              refine (C1.out _).mono ?_
              rintro e w2 ⟨rfl, b2⟩
              have ST2 := Lib.hid (ST1.out.below b2 (by rw [World.size_alloc]; omega))
              clear b2
              go_wp2
              go_ret
              exact ⟨by rw [HR.out, HX.out]; rfl, (below_alloc _).trans (by rw [← HW0.out]; exact ST2.out.bel.mono (by omega))⟩
          · obtain rfl : k = m := by omega
            have HX : Hid (plainE W E = 0) := Lib.hid (plainE_zero.mpr ⟨by have := HMANY.out; omega, HWO.out, by
              have h := HE.out
              rw [List.take_of_length_le (by rw [HM.out]; omega)] at h
              rw [HN.out]
              exact h⟩)
            go_wp2
            go_ret
            exact ⟨by rw [HR.out, HX.out]; rfl, (below_alloc _).trans (by rw [← HW0.out]; exact HB.out.mono (by omega))⟩
end Go.Proofs.YtmmogdccjiagnaaDoor
set_option linter.unusedVariables false
namespace Go.Proofs.YtmmogdccjiagnaaDoor
open Go.RowKit

open Classical in
/-- What is said of a graph. -/
noncomputable def chkE (W : List Int) (E : List (Int × Int)) : Int := if plainE W E ≠ 0 then plainE W E else if Acyc E then 0 else 43
/-- It may be. -/
structure May (W : List Int) (E : List (Int × Int)) : Prop where
  nodes : W.length ≤ 64
  edges : E.length ≤ 256
  work : WorkOk W
  fits : Fits W.length E
  apart : ∀ e ∈ E, e.1 ≠ e.2
  once : E.Nodup
  acyc : Acyc E
theorem chkE_zero {W : List Int} {E : List (Int × Int)} : chkE W E = 0 ↔ May W E := by
  unfold chkE
  split
  · rename_i h
    exact ⟨fun k => absurd k h, fun k => absurd (plainE_zero.mpr ⟨⟨k.nodes, k.edges⟩, k.work, k.fits, k.apart, k.once⟩) h⟩
  · rename_i h
    have h1 := plainE_zero.mp (Classical.not_not.mp h)
    split
    · rename_i hA
      exact ⟨fun _ => ⟨h1.1.1, h1.1.2, h1.2.1, h1.2.2.1, h1.2.2.2.1, h1.2.2.2.2, hA⟩, fun _ => rfl⟩
    · rename_i hA
      exact ⟨fun k => (by cases k), fun k => absurd k.acyc hA⟩
theorem chkE_plain {W : List Int} {E : List (Int × Int)} (h : plainE W E ≠ 0) : chkE W E = plainE W E := by unfold chkE; rw [if_pos h]
theorem chkE_round {W : List Int} {E : List (Int × Int)} (h : plainE W E = 0) (hA : ¬ Acyc E) : chkE W E = 43 := by unfold chkE; rw [if_neg (fun k => k h), if_neg hA]
theorem chkE_ok {W : List Int} {E : List (Int × Int)} (h : plainE W E = 0) (hA : Acyc E) : chkE W E = 0 := by unfold chkE; rw [if_neg (fun k => k h), if_pos hA]

set_option maxRecDepth 100000 in
set_option maxHeartbeats 2000000 in
theorem rcheck_any (A F : Option Addr) (n c m d : Nat) (W : List Int) (E : List (Int × Int)) (w : World) (hn : W.length = n) (hl : n ≤ 1000) (hm : E.length = m) (hk : m ≤ 1000) (hI : Ints w w.heap.size A W) (hP : Pairs w w.heap.size F E) :
    Calls Tryd.prog 41 #[.agg #[.slice A n c, .slice F m d]] w fun e w' => e = .returned (.int .i64 (chkE W E)) ∧ Below w.heap.size w w' := by
  have HP := Lib.hid hP
  have C := Lib.hid (fun W' hI hP => plain_any A F n c m d W E W' hn hl hm hk hI hP)
  have HNI := Lib.hid hn
  have HMI := Lib.hid hm
  have HI := Lib.hid hI
  obtain ⟨w0, hw0⟩ : ∃ w0, w0 = w.alloc (.cells #[.slice A n c, .slice F m d] 25) := ⟨_, rfl⟩
  have HW0 := Lib.hid hw0
  have C0 : Hid (Calls Tryd.prog 65 #[.agg #[.slice A n c, .slice F m d]] (w.alloc (.cells #[.slice A n c, .slice F m d] 25)) fun e w' => e = .returned (.int .i64 (plainE W E)) ∧ Below (w.heap.size + 1) w0 w') :=
    Lib.hid ((C.out _ ((hI.alloc (Nat.le_refl _) _).more (by simp)) ((hP.alloc (Nat.le_refl _) _).more (by simp))).mono (fun e w' h => ⟨h.1, by rw [hw0]; exact h.2.mono (by simp)⟩))
  clear hn hm hI hP hw0
  by_cases hz : plainE W E = 0
  · obtain ⟨_, _, hF, _⟩ := plainE_zero.mp hz
    rw [HNI.out] at hF
    have D := Lib.hid (fun a ha W' hP => reach_any A F n c m d E a W' hl HMI.out hk ha hF hP)
    have HRE := Lib.hid (fun a => reach_iff (a := a) (b := a) hF)
    have HLEN := Lib.hid (fun a => reachK_length n E a n)
    have HROUND := Lib.hid (chkE_round hz)
    have HOK := Lib.hid (chkE_ok hz)
    have HFIT := Lib.hid hF
    rw [hz] at C0
    obtain ⟨r, hr⟩ : ∃ r, r = chkE W E := ⟨_, rfl⟩
    rw [← hr]
    have HR := Lib.hid hr
    clear hz hF hr
    go_enter Tryd.func41, Tryd.ntmps41
    go_wp2_with fail
    refine C0.out.mono ?_
    rintro e w1 ⟨rfl, b1⟩
    have HB1 := Lib.hid b1
    clear b1
    have hbx0 : w1.cell? ⟨w.heap.size, 0, none⟩ = some (.slice A n c) := (HB1.out.cell (Nat.lt_succ_self _)).trans (by rw [HW0.out, World.cell?_alloc_at _ _ _ _ rfl]; rfl)
    go_wp2
    go_loopw [4] (fun i wr => ∃ j : Nat, j ≤ n ∧ i = .int .i64 j ∧ Hid (∀ a, a < j → ¬ Way E a a) ∧ Hid (Below (w.heap.size + 1) w0 wr)) (fun i _ => n - (intOf i).toNat)
    case atStart => exact ⟨0, Nat.zero_le _, rfl, Lib.hid (fun a h => by omega), HB1⟩
    case round =>
      obtain ⟨j, hj, rfl, HA, HB⟩ := hrel
      have hbox0 : wr.cell? ⟨w.heap.size, 0, none⟩ = some (.slice A n c) := (HB.out.cell (Nat.lt_succ_self _)).trans (by rw [HW0.out, World.cell?_alloc_at _ _ _ _ rfl]; rfl)
      have hbox1 : wr.cell? ⟨w.heap.size, 1, none⟩ = some (.slice F m d) := (HB.out.cell (Nat.lt_succ_self _)).trans (by rw [HW0.out, World.cell?_alloc_at _ _ _ _ rfl]; rfl)
      have hsz : w.heap.size + 1 ≤ wr.heap.size := by have := HB.out.size; rw [HW0.out] at this; simpa using this
      by_cases hlt : j < n
      · have D1 := Lib.hid (D.out j (by omega) wr ((by rw [HW0.out] at HB; exact (((HP.out.alloc (Nat.le_refl _) _).below (HB.out.mono (by omega))).more (by omega)))))
        go_wp2_with fail
        refine D1.out.mono ?_
        rintro e w2 ⟨g, c2, rfl, hg, hV, b2⟩
        have HB2 := Lib.hid (HB.out.trans (b2.mono hsz))
        have hlen : (reach n E j).length = n := HLEN.out j
        have hcell := hV.cell (bools_at (l := reach n E j) (j := j) (by omega))
        rw [hlen]
        have HIFF := Lib.hid (HRE.out j)
        cases hb : (reach n E j).getD j false with
        | true =>
          rw [hb] at hcell
          have HWAY := Lib.hid (HIFF.out.mp hb)
          have HX := Lib.hid (HROUND.out (fun q => q j HWAY.out))
          clear hb hV b2 hlen
          go_wp2
          go_ret
          exact ⟨by rw [HR.out, HX.out]; rfl, (below_alloc _).trans (by rw [← HW0.out]; exact HB2.out.mono (by omega))⟩
        | false =>
          rw [hb] at hcell
          have HNW : Hid (¬ Way E j j) := Lib.hid (fun q => by have h := HIFF.out.mpr q; rw [hb] at h; cases h)
          clear hb hV b2 hlen
          go_wp2
          go_roundw
          case rel => exact ⟨j + 1, by omega, by go_num, Lib.hid (fun a ha => by
            rcases Nat.lt_or_ge a j with h | h
            · exact HA.out a h
            · obtain rfl : a = j := by omega
              exact HNW.out), HB2⟩
          case measure => simp [intOf]; omega
      · obtain rfl : j = n := by omega
        have HX := Lib.hid (HOK.out (fun a ha => HA.out a (ha.lt HFIT.out).1 ha))
        go_wp2
        go_ret
        exact ⟨by rw [HR.out, HX.out]; rfl, (below_alloc _).trans (by rw [← HW0.out]; exact HB.out.mono (by omega))⟩
  · have HX := Lib.hid (chkE_plain hz)
    have hz2 : (plainE W E != 0) = true := by simpa using hz
    obtain ⟨p, hp⟩ : ∃ p, p = plainE W E := ⟨_, rfl⟩
    rw [HX.out]
    rw [← hp] at C0 hz2 ⊢
    clear hz hp HX
    go_enter Tryd.func41, Tryd.ntmps41
    go_wp2_with fail
    refine C0.out.mono ?_
    rintro e w1 ⟨rfl, b1⟩
    have HB1 := Lib.hid b1
    clear b1
    go_wp2
    go_ret
    exact ⟨rfl, (below_alloc _).trans (by rw [← HW0.out]; exact HB1.out.mono (by omega))⟩
end Go.Proofs.YtmmogdccjiagnaaDoor
set_option linter.unusedVariables false
namespace Go.Proofs.YtmmogdccjiagnaaDoor
open Go.RowKit

theorem ready_eq {n : Nat} {E : List (Int × Int)} (out : List Nat) (m : Nat) : ready n E out m = (!decide ((m : Int) ∈ nums out) && (predsL n E m).all fun x => decide (x ∈ nums out)) := by
  unfold ready
  congr 1
  · rw [Bool.not_inj_iff, Bool.eq_iff_iff, List.contains_iff_mem, decide_eq_true_iff, mem_nums]
  · rw [Bool.eq_iff_iff, List.all_eq_true, List.all_eq_true]
    unfold predsL
    constructor
    · intro h x hx
      obtain ⟨h1, h2⟩ := List.mem_filter.mp hx
      obtain ⟨a, ha, rfl⟩ := List.mem_map.mp h1
      have h3 := h a ha
      rw [Bool.or_eq_true, Bool.not_eq_true', decide_eq_false_iff_not, List.contains_iff_mem] at h3
      rw [decide_eq_true_iff]
      rcases h3 with h3 | h3
      · exact absurd (of_decide_eq_true h2) h3
      · exact mem_nums.mpr h3
    · intro h a ha
      rw [Bool.or_eq_true, Bool.not_eq_true', decide_eq_false_iff_not, List.contains_iff_mem]
      by_cases he : ed E a m
      · right
        have := h (a : Int) (List.mem_filter.mpr ⟨List.mem_map.mpr ⟨a, ha, rfl⟩, decide_eq_true he⟩)
        exact mem_nums.mp (of_decide_eq_true this)
      · exact .inl he
theorem pick_at {n : Nat} {E : List (Int × Int)} {out : List Nat} {i : Nat} (hi : i < n) (h : ready n E out i = true) (hb : ∀ m, m < i → ready n E out m = false) : pick n E out = some i := by
  unfold pick
  rw [List.find?_range_eq_some]
  exact ⟨h, List.mem_range.mpr hi, fun j hj => by rw [hb j hj]; rfl⟩
theorem pick_nil {n : Nat} {E : List (Int × Int)} {out : List Nat} (hb : ∀ m, m < n → ready n E out m = false) : pick n E out = none := by
  unfold pick
  rw [List.find?_eq_none]
  intro m hm
  rw [hb m (List.mem_range.mp hm)]
  exact Bool.false_ne_true
theorem ordK_some {n : Nat} {E : List (Int × Int)} {k m : Nat} (h : pick n E (ordK n E k) = some m) : ordK n E (k + 1) = ordK n E k ++ [m] := by
  show (match pick n E (ordK n E k) with | some m => ordK n E k ++ [m] | none => ordK n E k) = _
  rw [h]
theorem ordK_none {n : Nat} {E : List (Int × Int)} {k : Nat} (h : pick n E (ordK n E k) = none) : ordK n E (k + 1) = ordK n E k := by
  show (match pick n E (ordK n E k) with | some m => ordK n E k ++ [m] | none => ordK n E k) = _
  rw [h]
theorem ordK_le {n : Nat} {E : List (Int × Int)} : ∀ k, (ordK n E k).length ≤ k
  | 0 => Nat.le_refl _
  | k + 1 => by
    have ih := ordK_le (n := n) (E := E) k
    cases h : pick n E (ordK n E k) with
    | some m => rw [ordK_some h, List.length_append, List.length_singleton]; omega
    | none => rw [ordK_none h]; omega

end Go.Proofs.YtmmogdccjiagnaaDoor
set_option linter.unusedVariables false
namespace Go.Proofs.YtmmogdccjiagnaaDoor
open Go.RowKit

theorem OwnI.block {w : World} {base : Nat} {A : Option Addr} {n c : Nat} {zs : List Int} (h : OwnI w base (.slice A n c) zs) (h0 : 0 < zs.length) : ∃ g, A = some ⟨g, 0, none⟩ ∧ base ≤ g ∧ g < w.heap.size := by
  rcases h.2 with ⟨_, hn⟩ | ⟨g, cap, cur, hv, hg, hgg, _⟩
  · omega
  · injection hv with h1 h2 h3
    exact ⟨g, h1, hg, (Array.getElem?_eq_some_iff.1 hgg).1⟩
theorem OwnI.len {w : World} {base : Nat} {A : Option Addr} {n c : Nat} {zs : List Int} (h : OwnI w base (.slice A n c) zs) : n = zs.length := by
  rcases h.2 with ⟨hv, hn⟩ | ⟨g, cap, cur, hv, _⟩
  · injection hv with h1 h2 h3
    omega
  · injection hv with h1 h2 h3
theorem OwnI.cellAt {w : World} {base g c n : Nat} {zs : List Int} (h : OwnI w base (.slice (some ⟨g, 0, none⟩) n c) zs) {j : Nat} (hj : j < zs.length) : w.cell? ⟨g, j, none⟩ = some (.int .i64 (zs.getD j 0)) := by
  obtain rfl := h.len
  rw [World.ownsRow.cellAt h j (by omega), List.getElem?_map, List.getElem?_eq_getElem hj, List.getD_eq_getElem?_getD, List.getElem?_eq_getElem hj]
  rfl
theorem OwnI.frozenAt {w : World} {base g c n : Nat} {zs : List Int} (h : OwnI w base (.slice (some ⟨g, 0, none⟩) n c) zs) (j : Nat) : w.frozen? ⟨g, j, none⟩ = false := by
  obtain rfl := h.len
  exact World.ownsRow.frozenAt h j
theorem OwnI.stored {w : World} {base g c n : Nat} {zs : List Int} (h : OwnI w base (.slice (some ⟨g, 0, none⟩) n c) zs) (j : Nat) (z : Int) : OwnI (w.setCell ⟨g, j, none⟩ (.int .i64 z)) base (.slice (some ⟨g, 0, none⟩) n c) (zs.set j z) := by
  obtain rfl := h.len
  have := World.ownsRow.stored h j (.int .i64 z)
  unfold OwnI
  rw [List.length_set, List.map_set]
  exact this.1

/-- 'append([]int{}, l...)', as a list of the call's own. -/
theorem wpList_own {ops : Array Oper} {rest : List Oper} {o : Oper} {a : Act} {Q : Exit → Act → World → Prop} (hgd : o.guard = none) (s x : Operand)
    (ho : o.op = .call { callee := .builtin .append, args := #[s, x], argTypes := #[22, 22] })
    (w1 : World) (B : Nat) (A : Option Addr) (cap len : Nat) (zs : List Int) (hlen : zs.length = len) (hl : len ≤ 1000) (hI : Ints w1 B A zs) (hB : B ≤ w1.heap.size) (hA : A = none → cap = 0)
    (hs : a.eval s = .slice (some ⟨w1.heap.size, 0, none⟩) 0 0) (hx : a.eval x = .slice A len cap)
    (h : ∀ A' c' w', OwnI w' w1.heap.size (.slice A' len c') zs → Below w1.heap.size w1 w' → wpList Tryd.prog ops Q rest (a.put o.dst (.slice A' len c')) w') : wpList Tryd.prog ops Q (o :: rest) a (w1.alloc (.cells #[] 3)) := by
  obtain ⟨i0, hi0, hz0, hz1, hz2⟩ := info_parts int_cell_info
  have hown : OwnI (w1.alloc (.cells #[] 3)) w1.heap.size (.slice (some ⟨w1.heap.size, 0, none⟩) 0 0) [] := OwnI.new w1 w1.heap.size (Nat.le_refl _)
  subst hlen
  rcases A with _ | ad
  · have e0 : zs = [] := hI.none_nil
    have e1 : cap = 0 := hA rfl
    subst e0 e1
    exact wpList_append_own_none hgd s x 22 ho w1.heap.size 3 i0 1 Tryd.underlying22 hi0 _ 0 [] hs hown hx (h _ _ _ hown (below_alloc _))
  · refine wpList_append_own _ hgd s x 22 ho w1.heap.size 3 i0 (.int .i64 0) 1 8 Tryd.underlying22 hi0 hz0 hz1 hz2 rfl (by omega) _ 0 [] hs hown ad zs.length cap (zs.map (Value.int .i64)) hx (by simp) (hI.alloc hB _).cells (oneCell_ints zs)
      (by unfold maxLen; omega) (by omega) (by simp) ?_
    intro v' w' hown' hg _
    rw [Nat.zero_add, List.nil_append] at hown'
    have hO' : OwnI w' w1.heap.size v' zs := hown'
    obtain ⟨A', c', rfl, _⟩ := hO'.slice
    exact h A' c' w' hO' ((below_alloc _).grown hg (by simp) (by simp [Value.ownBlock]))
theorem roundL_snoc {W : List Int} {E : List (Int × Int)} {i : Nat} {e : Int × Int} (far : List Int) (h : E[i]? = some e) : roundL W (E.take (i + 1)) far = relaxL W (roundL W (E.take i) far) e := by
  rw [take_snoc' h]
  unfold roundL
  rw [List.foldl_append]
  rfl
theorem sum_le (W : List Int) (h : WorkOk W) : W.sum ≤ 1000 * W.length := by
  induction W with
  | nil => simp
  | cons z W ih =>
    have h1 := ih (fun x hx => h x (by simp [hx]))
    have h2 := h z (by simp)
    simp only [List.sum_cons, List.length_cons]
    omega
theorem wsum_pos {W : List Int} (h : WorkOk W) (p : List Nat) : 0 ≤ wsum W p := by
  induction p with
  | nil => exact Int.le_refl _
  | cons x q ih =>
    unfold wsum at ih ⊢
    simp only [List.map_cons, List.sum_cons]
    have h0 : 0 ≤ W.getD x 0 := by
      rw [List.getD_eq_getElem?_getD]
      cases hx : W[x]? with
      | none => exact Int.le_refl _
      | some z => exact (h z (List.mem_of_getElem? hx)).1
    omega
theorem far_in {W : List Int} {E : List (Int × Int)} (hF : Fits W.length E) (hA : Acyc E) (hW : WorkOk W) (j k : Nat) (b : Nat) (hb : b < W.length) :
    0 ≤ (roundL W (E.take k) (farK W E j)).getD b 0 ∧ (roundL W (E.take k) (farK W E j)).getD b 0 ≤ 1000 * W.length := by
  have h := roundL_sound hF (E.take k) (farK W E j) (fun e he => List.mem_of_mem_take he) (farK_sound hF j)
  obtain ⟨r, h1, h2, h3⟩ := h.2 b hb
  have h4 := wsum_le (fun z hz => (hW z hz).1) (h1.nodup hA) h2
  have h5 := wsum_pos hW (b :: r)
  have h6 := sum_le W hW
  omega
theorem roundL_length (W : List Int) (E : List (Int × Int)) (far : List Int) : (roundL W E far).length = far.length := ((roundL_le W E far).1).symm
theorem most_snoc {l : List Int} {j : Nat} {z : Int} (h : l[j]? = some z) : most (l.take (j + 1)) = max (most (l.take j)) z := by
  rw [take_snoc' h]
  unfold most
  rw [List.foldl_append]
  rfl

end Go.Proofs.YtmmogdccjiagnaaDoor
set_option linter.unusedVariables false
namespace Go.Proofs.YtmmogdccjiagnaaDoor
open Go.RowKit

/-- A graph, as it is handed over: two slices that read as its works and its edges. -/
structure IsG (w : World) (A : Option Addr) (n c : Nat) (F : Option Addr) (m d : Nat) (W : List Int) (E : List (Int × Int)) : Prop where
  hn : W.length = n
  hm : E.length = m
  ln : n ≤ 400
  lm : m ≤ 400
  ints : Ints w w.heap.size A W
  pairs : Pairs w w.heap.size F E
  hA : A = none → n = 0 ∧ c = 0
  hF : F = none → m = 0 ∧ d = 0
  tab : Tab64 w
theorem IsG.below {w w' : World} {A : Option Addr} {n c : Nat} {F : Option Addr} {m d : Nat} {W : List Int} {E : List (Int × Int)} (h : IsG w A n c F m d W E) (hb : Below w.heap.size w w') : IsG w' A n c F m d W E :=
  ⟨h.hn, h.hm, h.ln, h.lm, (h.ints.below hb).more hb.size, (h.pairs.below hb).more hb.size, h.hA, h.hF, h.tab.via hb⟩
theorem OwnI.none_nil {w : World} {b : Nat} {n c : Nat} {zs : List Int} (h : OwnI w b (.slice none n c) zs) : n = 0 ∧ c = 0 := by
  rcases h.2 with ⟨hv, hn⟩ | ⟨g, cap, cur, hv, _⟩
  · injection hv with _ h1 h2
    exact ⟨h1, h2⟩
  · injection hv with h1
    cases h1
theorem OwnE.none_nil {w : World} {b : Nat} {n c : Nat} {es : List (Int × Int)} (h : OwnE w b (.slice none n c) es) : n = 0 ∧ c = 0 := by
  rcases h.2 with ⟨hv, hn⟩ | ⟨g, cap, cur, hv, _⟩
  · injection hv with _ h1 h2
    exact ⟨h1, h2⟩
  · injection hv with h1
    cases h1
theorem own_isG {w : World} {b : Nat} {u v : Value} {W : List Int} {E : List (Int × Int)} (ht : Tab64 w) (hu : OwnI w b u W) (hv : OwnE w b v E) (hW : W.length ≤ 400) (hE : E.length ≤ 400) :
    ∃ A c F d, u = .slice A W.length c ∧ v = .slice F E.length d ∧ IsG w A W.length c F E.length d W E := by
  obtain ⟨A, c, rfl, h1⟩ := hu.slice
  obtain ⟨F, d, rfl, h2⟩ := hv.slice
  refine ⟨A, c, F, d, rfl, rfl, ⟨rfl, rfl, hW, hE, h1, h2, ?_, ?_, ht⟩⟩
  · rintro rfl; exact hu.none_nil
  · rintro rfl; exact hv.none_nil

open Classical in
noncomputable def totalV (W : List Int) (E : List (Int × Int)) : Int := if May W E then W.sum else 0
open Classical in
noncomputable def orderV (W : List Int) (E : List (Int × Int)) : List Int := if May W E then nums (ord W.length E) else []
open Classical in
noncomputable def predsV (W : List Int) (E : List (Int × Int)) (x : Int) : List Int := if May W E then predsL W.length E x else []
open Classical in
noncomputable def succsV (W : List Int) (E : List (Int × Int)) (x : Int) : List Int := if May W E then succsL W.length E x else []
open Classical in
noncomputable def beforeV (W : List Int) (E : List (Int × Int)) (a b : Int) : Bool := if May W E ∧ 0 ≤ a ∧ 0 ≤ b ∧ Way E a.toNat b.toNat then true else false
open Classical in
noncomputable def longV (W : List Int) (E : List (Int × Int)) : Int := if May W E then most (farK W E W.length) else 0

/-! The chapter's example -/
theorem acyc_of {n : Nat} {E : List (Int × Int)} (hF : Fits n E) (h : ∀ a, a < n → (reach n E a).getD a false = false) : Acyc E := fun a ha => by
  have h1 := (reach_iff hF a a).mpr ha
  rw [h a (ha.lt hF).1] at h1
  cases h1
def exW : List Int := [2, 3, 4]
def exE : List (Int × Int) := [(0, 2), (1, 2)]
theorem exFits : Fits 3 exE := by unfold Fits; decide
theorem exMay : May exW exE := ⟨by decide, by decide, by unfold WorkOk; decide, exFits, by decide, by decide, acyc_of exFits (by decide)⟩
theorem exCheck : chkE exW exE = 0 := chkE_zero.mpr exMay
theorem exTotal : totalV exW exE = 9 := by unfold totalV; rw [if_pos exMay]; decide
theorem exLong : longV exW exE = 7 := by unfold longV; rw [if_pos exMay]; decide
theorem exOrder : orderV exW exE = [0, 1, 2] := by unfold orderV; rw [if_pos exMay]; decide
theorem exPreds : predsV exW exE 2 = [0, 1] := by unfold predsV; rw [if_pos exMay]; decide
theorem exSuccs : succsV exW exE 0 = [2] := by unfold succsV; rw [if_pos exMay]; decide
theorem exBefore1 : beforeV exW exE 1 2 = true := by
  unfold beforeV
  rw [if_pos]
  exact ⟨exMay, by decide, by decide, (reach_iff exFits 1 2).mp (by decide)⟩
theorem exBefore0 : beforeV exW exE 0 1 = false := by
  unfold beforeV
  rw [if_neg]
  rintro ⟨_, _, _, h⟩
  have := (reach_iff exFits 0 1).mpr h
  revert this
  decide
def roW : List Int := [1, 1]
def roE : List (Int × Int) := [(0, 1), (1, 0)]
theorem roFits : Fits 2 roE := by unfold Fits; decide
theorem roCheck : chkE roW roE = 43 := by
  refine chkE_round (plainE_zero.mpr ⟨by decide, by unfold WorkOk; decide, roFits, by decide, by decide⟩) (fun h => h 0 ?_)
  exact (reach_iff roFits 0 0).mp (by decide)
end Go.Proofs.YtmmogdccjiagnaaDoor
