/- The contracts of edf's functions, in the seat YtohgdeddepfanaaDoor. No statement is proved here. -/
import Derived.Test.YtohgdeddepfanaaDoorEdfIdx
import Derived.Test.YtohgdeddepfanaaDoorClassTold
set_option linter.unusedVariables false
set_option linter.unusedSimpArgs false
namespace Go.Proofs.YtohgdeddepfanaaDoor
open Go Go.RowKit

theorem tdiv_pos {a b : Int} (ha : 0 ≤ a) : a.tdiv b = a / b := Int.tdiv_eq_ediv_of_nonneg ha
set_option maxHeartbeats 2000000 in
theorem demand1_any (s : Shp) (t : Int) (q : Nat) (w : World) (hs : LightS s) (h0 : 0 ≤ t) (h1 : t ≤ 1099511631872) (hc : w.cell? ⟨q, 0, none⟩ = some (.int .i64 t)) :
    Calls Tryd.prog 32 #[s.val, .pointer (some ⟨q, 0, none⟩)] w fun e w' => e = .returned (.int .i64 (dem1 t s)) ∧ Below w.heap.size w w' := by
  have hq := World.block_lt_of_cell? _ _ hc
  have hle := dem1_le hs h0
  obtain ⟨n1, n2, n3, n4, n5, n6, n7⟩ := hs.nums
  by_cases hd : t < s.d
  · rw [dem1_low hd]
    obtain ⟨st, sl, sm, sd, sp⟩ := s
    unfold Shp.val
    dsimp only at hd n1 n2 n3 n4 n5 n6 n7 ⊢
    clear hs hle
    go_enter Tryd.func32, Tryd.ntmps32
    go_wp2
    go_ret
    exact ⟨rfl, below_alloc _⟩
  · rw [dem1_high hd] at hle ⊢
    obtain ⟨z, hz⟩ : ∃ z, z = (t - s.d) / s.p := ⟨_, rfl⟩
    have z0 : 0 ≤ z := by rw [hz]; exact Int.ediv_nonneg (by omega) (by omega)
    have z1 : z ≤ t - s.d := by rw [hz]; exact Int.ediv_le_self _ (by omega)
    have hz2 : (t - s.d).tdiv s.p = z := by rw [tdiv_pos (by omega), hz]
    rw [← hz] at hle ⊢
    obtain ⟨y, hy⟩ : ∃ y, y = s.t * (1 + z) := ⟨_, rfl⟩
    rw [← hy] at hle ⊢
    have hy2 : s.t * (1 + z) = y := hy.symm
    obtain ⟨y0, y1, -⟩ := hle
    obtain ⟨st, sl, sm, sd, sp⟩ := s
    unfold Shp.val
    dsimp only at hd n1 n2 n3 n4 n5 n6 n7 z1 hz2 hy2 ⊢
    have hsp : sp ≠ 0 := by omega
    have hsp2 : ¬ sp = 0 := by omega
    have hsp3 : (sp == 0) = false := by simpa using hsp2
    clear hs hz hy
    go_enter Tryd.func32, Tryd.ntmps32
    go_wp2_with fail
    go_quiet (fail)
    go_wp2
    go_ret
    exact ⟨rfl, below_drewN (below_alloc _) _⟩
set_option maxHeartbeats 2000000 in
theorem block1_any (s : Shp) (t : Int) (q : Nat) (w : World) (hc : w.cell? ⟨q, 0, none⟩ = some (.int .i64 t)) :
    Calls Tryd.prog 33 #[s.val, .pointer (some ⟨q, 0, none⟩)] w fun e w' => e = .returned (.int .i64 (blk1 t s)) ∧ Below w.heap.size w w' := by
  have hq := World.block_lt_of_cell? _ _ hc
  unfold blk1
  obtain ⟨st, sl, sm, sd, sp⟩ := s
  unfold Shp.val
  dsimp only
  by_cases hd : sd ≤ t
  · rw [if_pos hd]
    go_enter Tryd.func33, Tryd.ntmps33
    go_wp2
    go_ret
    exact ⟨rfl, below_alloc _⟩
  · rw [if_neg hd]
    go_enter Tryd.func33, Tryd.ntmps33
    go_wp2
    go_ret
    exact ⟨rfl, below_alloc _⟩
theorem horizon1_any (s : Shp) (w : World) :
    Calls Tryd.prog 30 #[s.val] w fun e w' => e = .returned (.int .i64 s.p) ∧ Below w.heap.size w w' := by
  obtain ⟨st, sl, sm, sd, sp⟩ := s
  unfold Shp.val
  dsimp only
  go_enter Tryd.func30, Tryd.ntmps30
  go_wp2
  go_ret
  exact ⟨rfl, below_alloc _⟩
set_option maxHeartbeats 2000000 in
theorem check1_any (s : Shp) (w : World) (hT : DTab w) :
    Calls Tryd.prog 25 #[s.val] w fun e w' => e = .returned (.bool (!decide (LightS s))) ∧ Below w.heap.size w w' := by
  have K1 := Lib.hid (fun W (b : Below w.heap.size w W) => ccheck_any s W (hT.via b))
  have K2 := Lib.hid (fun W (b : Below w.heap.size w W) => cheavy_any s W (hT.via b))
  have B := Lib.hid (Rwk.start w [(34, [.int .i64 s.t, .int .i64 s.l, .int .i64 s.m, .int .i64 s.d, .int .i64 s.p])])
  clear hT
  by_cases hs : s.Ok
  · rw [chkS_ok hs] at K1
    obtain ⟨r, hr⟩ : ∃ r, r = heavyS s := ⟨_, rfl⟩
    have he : (!decide (LightS s)) = r := by
      rw [hr]
      unfold heavyS LightS
      by_cases hd : s.d < s.t
      · rw [decide_eq_true (⟨hs, hd⟩ : s.Ok ∧ s.d < s.t), decide_eq_false (fun q : s.Ok ∧ s.t ≤ s.d => by omega)]; rfl
      · rw [decide_eq_false (fun q : s.Ok ∧ s.d < s.t => hd q.2), decide_eq_true (⟨hs, by omega⟩ : s.Ok ∧ s.t ≤ s.d)]; rfl
    rw [he]
    rw [← hr] at K2
    clear he hr hs
    obtain ⟨st, sl, sm, sd, sp⟩ := s
    unfold Shp.val at K1 K2 ⊢
    dsimp only at K1 K2 B ⊢
    go_enter Tryd.func25, Tryd.ntmps25
    go_wp2_with fail
    refine (K1.out _ B.out.bel).mono ?_
    rintro e w1 ⟨rfl, b⟩
    have B := Lib.hid (B.out.next b)
    clear b
    obtain ⟨⟨c0, c1⟩, c2, c3, c4⟩ := shp_cells (s := ⟨st, sl, sm, sd, sp⟩) B.out
    dsimp only at c0 c1 c2 c3 c4
    go_wp2_with fail
    refine (K2.out _ B.out.bel).mono ?_
    rintro e w2 ⟨rfl, b⟩
    have B := Lib.hid (B.out.next b)
    clear b c0 c1 c2 c3 c4
    go_wp2
    go_ret
    exact ⟨rfl, B.out.bel⟩
  · rw [chkS_no hs] at K1
    have he : (!decide (LightS s)) = true := by rw [decide_eq_false (fun q : LightS s => hs q.1)]; rfl
    rw [he]
    clear he hs K2
    obtain ⟨st, sl, sm, sd, sp⟩ := s
    unfold Shp.val at K1 ⊢
    dsimp only at K1 B ⊢
    go_enter Tryd.func25, Tryd.ntmps25
    go_wp2_with fail
    refine (K1.out _ B.out.bel).mono ?_
    rintro e w1 ⟨rfl, b⟩
    have B := Lib.hid (B.out.next b)
    clear b
    go_wp2
    go_ret
    exact ⟨rfl, B.out.bel⟩
section
variable {A : Option Addr} {n c : Nat} {es : List Shp}
set_option maxHeartbeats 4000000 in
theorem echeck_any (w : World) (hT : DTab w) (hn : es.length = n) (hl : n ≤ 1000) (hS : Shps w w.heap.size A es) :
    Calls Tryd.prog 14 #[.slice A n c] w fun e w' => e = .returned (.int .i64 (chkE es)) ∧ Below w.heap.size w w' := by
  by_cases h8 : n ≤ 8
  · obtain ⟨r, hr⟩ : ∃ r : Bool, r = !decide (MayE es) := ⟨_, rfl⟩
    have C := Lib.hid (fun W (b : Below w.heap.size w W) => has_shape A c n es 25 #[] (eg_of Tryd.func25 (by kernel_rfl) rfl) (fun s => !decide (LightS s)) W hn hl (hS.via b)
      (fun s W' _ b' => check1_any s W' ((hT.via b).via b')) r (by
        rw [hr]
        unfold MayE
        constructor
        · intro h
          have h2 : ¬ (es.length ≤ 8 ∧ ∀ s ∈ es, LightS s) := by
            have h' : decide (es.length ≤ 8 ∧ ∀ s ∈ es, LightS s) = false := by simpa only [Bool.not_eq_true'] using h
            exact of_decide_eq_false h'
          have h3 : ¬ ∀ s ∈ es, LightS s := fun q => h2 ⟨by omega, q⟩
          rw [Classical.not_forall] at h3
          obtain ⟨s, h3⟩ := h3
          rw [Classical.not_imp] at h3
          exact ⟨s, h3.1, by simp [h3.2]⟩
        · rintro ⟨s, hs, h⟩
          have h' : ¬ LightS s := by simpa using h
          have : ¬ (es.length ≤ 8 ∧ ∀ s ∈ es, LightS s) := fun q => h' (q.2 s hs)
          rw [decide_eq_false this]; rfl))
    have he : chkE es = if r then 150 else 0 := by
      rw [hr]
      unfold chkE
      by_cases hm : MayE es
      · simp [hm]
      · simp [hm]
    rw [he]
    have C := Lib.hid (C.out w (Below.refl _ _))
    clear hS hT hr he hn hl
    cases r with
    | true =>
      simp only [if_true] at C ⊢
      go_enter Tryd.func14, Tryd.ntmps14
      go_wp2_with fail
      refine C.out.mono ?_
      rintro e w1 ⟨rfl, b⟩
      have B := Lib.hid b
      clear b
      go_wp2
      go_ret
      exact ⟨rfl, B.out⟩
    | false =>
      go_enter Tryd.func14, Tryd.ntmps14
      go_wp2_with fail
      refine C.out.mono ?_
      rintro e w1 ⟨rfl, b⟩
      have B := Lib.hid b
      clear b
      go_wp2
      go_ret
      exact ⟨rfl, B.out⟩
  · rw [chkE_no fun q => by have := q.1; omega]
    clear hS hT
    go_enter Tryd.func14, Tryd.ntmps14
    go_wp2
    go_ret
    exact ⟨rfl, Below.refl _ _⟩
theorem sum_dem {es : List Shp} {t : Int} (hM : MayE es) (h0 : 0 ≤ t) (h1 : t ≤ 1099511631872) : ∀ k, -4611686018427387904 ≤ sumE (dem1 t) (es.take k) ∧ sumE (dem1 t) (es.take k) ≤ 4611686018427387904 := fun k => by
  have := demE_le (hM.take k) h0
  unfold demE at this
  omega
set_option maxHeartbeats 4000000 in
theorem edem_any (t : Int) (w : World) (hn : es.length = n) (hS : Shps w w.heap.size A es) (hM : MayE es) (h0 : 0 ≤ t) (h1 : t ≤ 1099511631872) :
    Calls Tryd.prog 22 #[.slice A n c, .int .i64 t] w fun e w' => e = .returned (.int .i64 (demE es t)) ∧ Below w.heap.size w w' := by
  obtain ⟨w1, hw1⟩ : ∃ w1, w1 = w.alloc (.cells #[.int .i64 t] 3) := ⟨_, rfl⟩
  have b1 : Below w.heap.size w w1 := by rw [hw1]; exact below_alloc _
  have hc : w1.cell? ⟨w.heap.size, 0, none⟩ = some (.int .i64 t) := by rw [hw1]; exact (RowV.new w 3 [.int .i64 t]).cell (j := 0) rfl
  have hq : w.heap.size < w1.heap.size := by rw [hw1]; simp
  have C := Lib.hid (esum_any A c n es 32 #[.pointer (some ⟨w.heap.size, 0, none⟩)] (eg_of Tryd.func32 (by kernel_rfl) rfl) (dem1 t) w1 hn (by have := hM.1; omega) (hS.via b1)
    (fun s W hs b => demand1_any s t _ W (hM.2 s hs) h0 h1 ((b.cell hq).trans hc)) (sum_dem hM h0 h1))
  have B := Lib.hid b1
  unfold demE
  rw [hw1] at C
  have HW := Lib.hid hw1
  clear hS hM hc hq b1 hw1 hn
  go_enter Tryd.func22, Tryd.ntmps22
  go_wp2_with fail
  refine C.out.mono ?_
  rintro e w2 ⟨rfl, b⟩
  rw [← HW.out] at b
  have B2 := Lib.hid (B.out.trans (b.mono B.out.size))
  clear b
  go_wp2
  go_ret
  exact ⟨rfl, B2.out⟩
set_option maxHeartbeats 4000000 in
theorem eblk_any (t : Int) (w : World) (hn : es.length = n) (hl : n ≤ 1000) (hS : Shps w w.heap.size A es) :
    Calls Tryd.prog 23 #[.slice A n c, .int .i64 t] w fun e w' => e = .returned (.int .i64 (blkE es t)) ∧ Below w.heap.size w w' := by
  obtain ⟨w1, hw1⟩ : ∃ w1, w1 = w.alloc (.cells #[.int .i64 t] 3) := ⟨_, rfl⟩
  have b1 : Below w.heap.size w w1 := by rw [hw1]; exact below_alloc _
  have hc : w1.cell? ⟨w.heap.size, 0, none⟩ = some (.int .i64 t) := by rw [hw1]; exact (RowV.new w 3 [.int .i64 t]).cell (j := 0) rfl
  have hq : w.heap.size < w1.heap.size := by rw [hw1]; simp
  have C := Lib.hid (egreat_any A c n es 33 #[.pointer (some ⟨w.heap.size, 0, none⟩)] (eg_of Tryd.func33 (by kernel_rfl) rfl) (blk1 t) w1 hn hl (hS.via b1)
    (fun s W hs b => block1_any s t _ W ((b.cell hq).trans hc)))
  have B := Lib.hid b1
  unfold blkE
  rw [hw1] at C
  have HW := Lib.hid hw1
  clear hS hc hq b1 hw1 hn
  go_enter Tryd.func23, Tryd.ntmps23
  go_wp2_with fail
  refine C.out.mono ?_
  rintro e w2 ⟨rfl, b⟩
  rw [← HW.out] at b
  have B2 := Lib.hid (B.out.trans (b.mono B.out.size))
  clear b
  go_wp2
  go_ret
  exact ⟨rfl, B2.out⟩
set_option maxHeartbeats 4000000 in
theorem ehor_any (w : World) (hT : DTab w) (hn : es.length = n) (hl : n ≤ 1000) (hS : Shps w w.heap.size A es) :
    Calls Tryd.prog 15 #[.slice A n c] w fun e w' => e = .returned (.int .i64 (horE es)) ∧ Below w.heap.size w w' := by
  have K := Lib.hid (echeck_any (c := c) w hT hn hl hS)
  unfold horE
  by_cases hM : MayE es
  · rw [if_pos hM]
    rw [chkE_ok hM] at K
    have C := Lib.hid (fun W (b : Below w.heap.size w W) => egreat_any A c n es 30 #[] (eg_of Tryd.func30 (by kernel_rfl) rfl) Shp.p W hn hl (hS.via b) (fun s W' _ _ => horizon1_any s W'))
    clear hS hT hn hl hM
    go_enter Tryd.func15, Tryd.ntmps15
    go_wp2_with fail
    refine K.out.mono ?_
    rintro e w1 ⟨rfl, b⟩
    have B := Lib.hid b
    clear b
    go_wp2_with fail
    refine (C.out _ B.out).mono ?_
    rintro e w2 ⟨rfl, b⟩
    have B := Lib.hid (B.out.trans (b.mono B.out.size))
    clear b
    go_wp2
    go_ret
    exact ⟨rfl, B.out⟩
  · rw [if_neg hM]
    rw [chkE_no hM] at K
    clear hS hT hn hl hM
    go_enter Tryd.func15, Tryd.ntmps15
    go_wp2_with fail
    refine K.out.mono ?_
    rintro e w1 ⟨rfl, b⟩
    have B := Lib.hid b
    clear b
    go_wp2
    go_ret
    exact ⟨rfl, B.out⟩
/-- Check's error, or that of a time. -/
def atE (es : List Shp) (t : Int) : Int := if MayE es then (if t < 0 ∨ 1099511627775 < t then 151 else 0) else 150
set_option maxHeartbeats 4000000 in
theorem echeckAt_any (t : Int) (w : World) (hT : DTab w) (hn : es.length = n) (hl : n ≤ 1000) (hS : Shps w w.heap.size A es) :
    Calls Tryd.prog 21 #[.slice A n c, .int .i64 t] w fun e w' => e = .returned (.int .i64 (atE es t)) ∧ Below w.heap.size w w' := by
  have K := Lib.hid (echeck_any (c := c) w hT hn hl hS)
  unfold atE
  by_cases hM : MayE es
  · rw [if_pos hM]
    rw [chkE_ok hM] at K
    clear hS hT hn hl hM
    by_cases h0 : t < 0
    · rw [if_pos (.inl h0)]
      go_enter Tryd.func21, Tryd.ntmps21
      go_wp2_with fail
      refine K.out.mono ?_
      rintro e w1 ⟨rfl, b⟩
      have B := Lib.hid b
      clear b
      go_wp2
      go_ret
      exact ⟨rfl, B.out⟩
    · by_cases h1 : 1099511627775 < t
      · rw [if_pos (.inr h1)]
        go_enter Tryd.func21, Tryd.ntmps21
        go_wp2_with fail
        refine K.out.mono ?_
        rintro e w1 ⟨rfl, b⟩
        have B := Lib.hid b
        clear b
        go_wp2
        go_ret
        exact ⟨rfl, B.out⟩
      · rw [if_neg (by omega)]
        go_enter Tryd.func21, Tryd.ntmps21
        go_wp2_with fail
        refine K.out.mono ?_
        rintro e w1 ⟨rfl, b⟩
        have B := Lib.hid b
        clear b
        go_wp2
        go_ret
        exact ⟨rfl, B.out⟩
  · rw [if_neg hM]
    rw [chkE_no hM] at K
    clear hS hT hn hl hM
    go_enter Tryd.func21, Tryd.ntmps21
    go_wp2_with fail
    refine K.out.mono ?_
    rintro e w1 ⟨rfl, b⟩
    have B := Lib.hid b
    clear b
    go_wp2
    go_ret
    exact ⟨rfl, B.out⟩
theorem atE_ok {es : List Shp} {t : Int} (h : atE es t = 0) : MayE es ∧ 0 ≤ t ∧ t ≤ 1099511627775 := by
  unfold atE at h
  split at h
  · split at h
    · exact absurd h (by decide)
    · exact ⟨by assumption, by omega, by omega⟩
  · exact absurd h (by decide)
theorem atE_may {es : List Shp} {t : Int} (h : MayE es) (h0 : 0 ≤ t) (h1 : t ≤ 1099511627775) : atE es t = 0 := by
  unfold atE
  rw [if_pos h, if_neg (by omega)]
/-- What Demand and Block tell. -/
def demV (es : List Shp) (t : Int) : Int := if atE es t = 0 then demE es t else 0
def blkV (es : List Shp) (t : Int) : Int := if atE es t = 0 then blkE es t else 0
set_option maxHeartbeats 4000000 in
theorem eDemand_any (t : Int) (w : World) (hT : DTab w) (hn : es.length = n) (hl : n ≤ 1000) (hS : Shps w w.heap.size A es) :
    Calls Tryd.prog 10 #[.slice A n c, .int .i64 t] w fun e w' => e = .returned (.tuple #[.int .i64 (demV es t), .int .i64 (atE es t)]) ∧ Below w.heap.size w w' := by
  have K := Lib.hid (echeckAt_any (c := c) t w hT hn hl hS)
  unfold demV
  by_cases h : atE es t = 0
  · rw [if_pos h]
    rw [h] at K ⊢
    obtain ⟨hM, h0, h1⟩ := atE_ok h
    have C := Lib.hid (fun W (b : Below w.heap.size w W) => edem_any (c := c) t W hn (hS.via b) hM h0 (by omega))
    clear hS hT hn hl hM h h0 h1
    go_enter Tryd.func10, Tryd.ntmps10
    go_wp2_with fail
    refine K.out.mono ?_
    rintro e w1 ⟨rfl, b⟩
    have B := Lib.hid b
    clear b
    go_wp2_with fail
    refine (C.out _ B.out).mono ?_
    rintro e w2 ⟨rfl, b⟩
    have B := Lib.hid (B.out.trans (b.mono B.out.size))
    clear b
    go_wp2
    go_ret2
    exact ⟨rfl, B.out⟩
  · rw [if_neg h]
    obtain ⟨x, hx⟩ : ∃ x, x = atE es t := ⟨_, rfl⟩
    rw [← hx] at K h ⊢
    clear hS hT hn hl hx
    go_enter Tryd.func10, Tryd.ntmps10
    go_wp2_with fail
    refine K.out.mono ?_
    rintro e w1 ⟨rfl, b⟩
    have B := Lib.hid b
    clear b
    go_wp2
    go_ret2
    exact ⟨rfl, B.out⟩
set_option maxHeartbeats 4000000 in
theorem eBlock_any (t : Int) (w : World) (hT : DTab w) (hn : es.length = n) (hl : n ≤ 1000) (hS : Shps w w.heap.size A es) :
    Calls Tryd.prog 12 #[.slice A n c, .int .i64 t] w fun e w' => e = .returned (.tuple #[.int .i64 (blkV es t), .int .i64 (atE es t)]) ∧ Below w.heap.size w w' := by
  have K := Lib.hid (echeckAt_any (c := c) t w hT hn hl hS)
  unfold blkV
  by_cases h : atE es t = 0
  · rw [if_pos h]
    rw [h] at K ⊢
    obtain ⟨hM, h0, h1⟩ := atE_ok h
    have C := Lib.hid (fun W (b : Below w.heap.size w W) => eblk_any (c := c) t W hn hl (hS.via b))
    clear hS hT hn hl hM h h0 h1
    go_enter Tryd.func12, Tryd.ntmps12
    go_wp2_with fail
    refine K.out.mono ?_
    rintro e w1 ⟨rfl, b⟩
    have B := Lib.hid b
    clear b
    go_wp2_with fail
    refine (C.out _ B.out).mono ?_
    rintro e w2 ⟨rfl, b⟩
    have B := Lib.hid (B.out.trans (b.mono B.out.size))
    clear b
    go_wp2
    go_ret2
    exact ⟨rfl, B.out⟩
  · rw [if_neg h]
    obtain ⟨x, hx⟩ : ∃ x, x = atE es t := ⟨_, rfl⟩
    rw [← hx] at K h ⊢
    clear hS hT hn hl hx
    go_enter Tryd.func12, Tryd.ntmps12
    go_wp2_with fail
    refine K.out.mono ?_
    rintro e w1 ⟨rfl, b⟩
    have B := Lib.hid b
    clear b
    go_wp2
    go_ret2
    exact ⟨rfl, B.out⟩
end
end Go.Proofs.YtohgdeddepfanaaDoor
