/- Integers as values, and 'make([]int, n)', in the seat YtpaambpajpmjdaaDoor.
   dag.Long in the seat YtpaambpajpmjdaaDoor: plain mathematics, and the contract of its closure.
   No statement is proved here. -/
import Derived.Test.YtpaambpajpmjdaaDoorZM5
import Derived.Laws.MakeOwn
import Derived.Test.YtpaambpajpmjdaaDoorZM8
set_option linter.unusedSimpArgs false
set_option linter.unusedVariables false
namespace Go.Proofs.YtpaambpajpmjdaaDoor
open Go.RowKit

def intsV (l : List Int) : List Value := l.map (Value.int .i64)
theorem intsV_at {l : List Int} {j : Nat} (h : j < l.length) : (intsV l)[j]? = some (.int .i64 (l.getD j 0)) := by
  unfold intsV
  rw [List.getElem?_map, List.getElem?_eq_getElem h, List.getD_eq_getElem?_getD, List.getElem?_eq_getElem h]
  rfl
theorem intsV_set (l : List Int) (j : Nat) (z : Int) : intsV (l.set j z) = (intsV l).set j (.int .i64 z) := by unfold intsV; rw [List.map_set]
theorem make_ints (n : Nat) (hn : n ≤ 1000) (W : World) : (Instr.makeSlice 22 (.int .i64 n) (.int .i64 n)).run Tryd.prog W = .ok (.slice (some ⟨W.heap.size, 0, none⟩) n n) (W.alloc (.cells (List.replicate n (Value.int .i64 0)).toArray 3)) := by
  obtain ⟨i0, hi, hz0, hz1, hz2⟩ := info_parts int_cell_info
  have h := run_make (P := Tryd.prog) W 22 3 i0 (.int .i64 0) Tryd.underlying22 hi hz0 .i64 .i64 n n (by omega) (by omega) (by rw [hz2]; omega) (by omega)
  rw [hz1] at h
  have e : madeCells (Value.int .i64 0).cells (((n : Int)).toNat * 1) = (List.replicate n (Value.int .i64 0)).toArray := by
    apply Array.toList_inj.mp
    rw [show (Value.int .i64 0).cells = #[Value.int .i64 0] from rfl, toList_madeCells_one]
    simp
  rw [e] at h
  exact h
end Go.Proofs.YtpaambpajpmjdaaDoor
set_option linter.unusedVariables false
namespace Go.Proofs.YtpaambpajpmjdaaDoor
open Go.RowKit

theorem most_spec (l : List Int) : 0 ≤ most l ∧ (∀ x ∈ l, x ≤ most l) ∧ (most l = 0 ∨ most l ∈ l) := foldl_max l 0
theorem most_sub {l l' : List Int} (h : ∀ x ∈ l, x ∈ l') : most l ≤ most l' := by
  rcases (most_spec l).2.2 with k | k
  · rw [k]; exact (most_spec l').1
  · exact (most_spec l').2.1 _ (h _ k)
theorem most_same {l l' : List Int} (h : ∀ x, x ∈ l ↔ x ∈ l') : most l = most l' := Int.le_antisymm (most_sub fun x hx => (h x).mp hx) (most_sub fun x hx => (h x).mpr hx)
/-- The most work of a way that ends with x. -/
def farAt (W : List Int) (E : List (Int × Int)) (x : Nat) : Int := (farK W E W.length).getD x 0
theorem far_step {W : List Int} {E : List (Int × Int)} (hF : Fits W.length E) (hA : Acyc E) {x : Nat} (hx : x < W.length) {l : List Nat} (hl : ∀ a, a ∈ l ↔ ed E a x) :
    farAt W E x = most (l.map (farAt W E)) + W.getD x 0 := by
  obtain ⟨m0, m1, m2⟩ := most_spec (l.map (farAt W E))
  have hS := farK_sound hF W.length
  apply Int.le_antisymm
  · obtain ⟨r, h1, h2, h3⟩ := hS.2 x hx
    have e : farAt W E x = wsum W (x :: r) := h3.symm
    rw [e]
    cases r with
    | nil =>
      simp only [wsum, List.map_cons, List.map_nil, List.sum_cons, List.sum_nil]
      omega
    | cons a r =>
      have hn := length_below W.length (x :: a :: r) (h1.nodup hA) h2
      simp only [List.length_cons] at hn
      have h4 : wsum W (a :: r) ≤ farAt W E a := farK_takes hF W.length a r h1.2 (by omega)
      have h5 := m1 (farAt W E a) (List.mem_map.mpr ⟨a, (hl a).mpr h1.1, rfl⟩)
      simp only [wsum, List.map_cons, List.sum_cons] at h4 ⊢
      omega
  · rcases m2 with k | k
    · have h4 := farK_takes (W := W) hF W.length x [] trivial (by simp)
      simp only [wsum, List.map_cons, List.map_nil, List.sum_cons, List.sum_nil] at h4
      show _ ≤ (farK W E W.length).getD x 0
      omega
    · obtain ⟨a, ha, he⟩ := List.mem_map.mp k
      have hed := (hl a).mp ha
      obtain ⟨r, h1, h2, h3⟩ := hS.2 a (ed_lt hF hed).1
      have hup : Up E (x :: a :: r) := ⟨hed, h1⟩
      have hin : In W.length (x :: a :: r) := fun y hy => by
        rcases List.mem_cons.mp hy with rfl | hy
        · exact hx
        · exact h2 y hy
      have hn := length_below W.length (x :: a :: r) (hup.nodup hA) hin
      simp only [List.length_cons] at hn
      have h4 := farK_takes (W := W) hF W.length x (a :: r) hup (by simp; omega)
      rw [← he]
      show (farK W E W.length).getD a 0 + _ ≤ (farK W E W.length).getD x 0
      rw [← h3]
      simp only [wsum, List.map_cons, List.sum_cons] at h4 ⊢
      omega
theorem far_bound {W : List Int} {E : List (Int × Int)} (hF : Fits W.length E) (hA : Acyc E) (hW : WorkOk W) {x : Nat} (hx : x < W.length) : 0 ≤ farAt W E x ∧ farAt W E x ≤ 1000 * W.length := by
  have := far_in hF hA hW W.length 0 x hx
  exact this
theorem long_order {W : List Int} {E : List (Int × Int)} {out : List Nat} (h : ∀ x, x ∈ out ↔ x < W.length) : most (out.map (farAt W E)) = most (farK W E W.length) := by
  apply most_same
  intro z
  constructor
  · intro hz
    obtain ⟨x, hx, rfl⟩ := List.mem_map.mp hz
    have hl : x < (farK W E W.length).length := by rw [farK_length]; exact (h x).mp hx
    unfold farAt
    rw [List.getD_eq_getElem?_getD, List.getElem?_eq_getElem hl]
    exact List.getElem_mem hl
  · intro hz
    obtain ⟨x, hx, rfl⟩ := List.getElem_of_mem hz
    refine List.mem_map.mpr ⟨x, (h x).mpr (by rw [farK_length] at hx; exact hx), ?_⟩
    unfold farAt
    rw [List.getD_eq_getElem?_getD, List.getElem?_eq_getElem hx]
    rfl

/-- In the middle of Long: the graph, what was read of it, and upTo, each in its box. -/
structure StL (b0 gb vb ub g n c : Nat) (A : Option Addr) (A' : Option Addr) (W : List Int) (ol : List Int) (ps : List Nat) (us : List Int) (w' : World) : Prop where
  d0 : w'.cell? ⟨b0, 0, none⟩ = some (.slice A n c)
  g0 : w'.cell? ⟨gb, 0, none⟩ = some (.slice (some ⟨g, 0, none⟩) n n)
  v0 : w'.cell? ⟨vb, 0, none⟩ = some (.slice (some ⟨ub, 0, none⟩) n n)
  row : RowN g ps w'
  up : RowV ub 3 (intsV us) w'
  ints : Ints w' ub A W
  out : Ints w' ub A' ol
  tab : Tab64 w'
  lb : b0 < ub
  lg : gb < ub
  lr : g < ub
  lt : 0 < ub
  lv : ub < vb
section
variable {b0 gb vb ub g n c : Nat} {A A' : Option Addr} {W : List Int} {E : List (Int × Int)} {ol : List Int} {ps : List Nat} {us : List Int}
theorem StL.next {w1 w2 : World} (h : StL b0 gb vb ub g n c A A' W ol ps us w1) (hb : Below w1.heap.size w1 w2) : StL b0 gb vb ub g n c A A' W ol ps us w2 :=
  ⟨(hb.cell (World.block_lt_of_cell? _ _ h.d0)).trans h.d0, (hb.cell (World.block_lt_of_cell? _ _ h.g0)).trans h.g0, (hb.cell (World.block_lt_of_cell? _ _ h.v0)).trans h.v0, h.row.below hb h.row.lt, h.up.below hb h.up.lt,
    h.ints.below (hb.mono (Nat.le_of_lt h.up.lt)), h.out.below (hb.mono (Nat.le_of_lt h.up.lt)), h.tab.via hb, h.lb, h.lg, h.lr, h.lt, h.lv⟩
theorem StL.store {w1 : World} (h : StL b0 gb vb ub g n c A A' W ol ps us w1) (j : Nat) (z : Int) : StL b0 gb vb ub g n c A A' W ol ps (us.set j z) (w1.setCell ⟨ub, j, none⟩ (.int .i64 z)) := by
  have hb : Below ub w1 (w1.setCell ⟨ub, j, none⟩ (.int .i64 z)) := (Below.refl ub w1).setCell (Nat.le_refl _) _
  refine ⟨(hb.cell h.lb).trans h.d0, (hb.cell h.lg).trans h.g0, (World.cell?_setCell_other _ _ _ _ ?_).trans h.v0, h.row.below hb h.lr, by rw [intsV_set]; exact h.up.set j _, h.ints.below hb, h.out.below hb, h.tab.below hb h.lt, h.lb, h.lg, h.lr, h.lt, h.lv⟩
  intro e
  have h1 : ub = vb := congrArg Addr.block e
  have := h.lv
  omega
theorem StL.cells {w' : World} (h : StL b0 gb vb ub g n c A A' W ol ps us w') : w'.cell? ⟨b0, 0, none⟩ = some (.slice A n c) ∧ w'.cell? ⟨gb, 0, none⟩ = some (.slice (some ⟨g, 0, none⟩) n n) ∧ w'.cell? ⟨vb, 0, none⟩ = some (.slice (some ⟨ub, 0, none⟩) n n) := ⟨h.d0, h.g0, h.v0⟩
set_option maxHeartbeats 4000000 in
theorem sum_any (x : Nat) (w : World) (hn : W.length = n) (hl : n ≤ 64) (hx : x < n) (hF : Fits n E) (hW : WorkOk W) (hPS : PredsOf n E ps) (hus : us.length = n) (hub : ∀ y, y < n → 0 ≤ us.getD y 0 ∧ us.getD y 0 ≤ 64000) (h : StL b0 gb vb ub g n c A A' W ol ps us w) :
    Calls Tryd.prog 47 #[.int .i64 x, .pointer (some ⟨gb, 0, none⟩), .pointer (some ⟨vb, 0, none⟩), .pointer (some ⟨b0, 0, none⟩)] w fun e w' => e = .returned (.int .i64 (most ((bitsL (ps.getD x 0)).map fun p => us.getD p 0) + W.getD x 0)) ∧ Below w.heap.size w w' := by
  obtain ⟨z, hz⟩ : ∃ z, W[x]? = some z := ⟨_, List.getElem?_eq_getElem (by rw [hn]; exact hx)⟩
  have hzd : W.getD x 0 = z := by rw [List.getD_eq_getElem?_getD, hz]; rfl
  have hz2 := hW z (List.mem_of_getElem? hz)
  rw [hzd]
  have hrow := h.row.cell (natsV_at (ps := ps) (j := x) (by rw [hPS.len]; exact hx))
  have C := Lib.hid (set_row (ps.getD x 0) w (hPS.lt x hx) h.tab)
  have HMEM := Lib.hid (fun p (hp : p ∈ bitsL (ps.getD x 0)) => (ed_lt hF (of_decide_eq_true ((hPS.bit x hx p).symm.trans (mem_bitsL.mp hp).2))).1)
  have HLEN := Lib.hid (bitsL_length (ps.getD x 0))
  obtain ⟨l, hll⟩ : ∃ l, l = bitsL (ps.getD x 0) := ⟨_, rfl⟩
  obtain ⟨p0, hp0⟩ : ∃ p, p = ps.getD x 0 := ⟨_, rfl⟩
  rw [← hll] at C HMEM HLEN ⊢
  rw [← hp0] at C hrow
  obtain ⟨lf, hlf⟩ : ∃ lf, lf = l.map fun p => us.getD p 0 := ⟨_, rfl⟩
  have HLF := Lib.hid hlf
  rw [← hlf]
  obtain ⟨k, hk⟩ : ∃ k, k = l.length := ⟨_, rfl⟩
  have HK := Lib.hid hk
  have HKN := Lib.hid (show (nums l).length = k by rw [nums_length, hk])
  have HFK := Lib.hid (show lf.length = k by rw [hlf, List.length_map, hk])
  obtain ⟨mv, hmv⟩ : ∃ mv, mv = most lf := ⟨_, rfl⟩
  rw [← hmv]
  have HMV := Lib.hid hmv
  have hk64 : k ≤ 64 := by rw [hk]; exact HLEN.out
  have HS := Lib.hid h
  have HZ := Lib.hid hz
  have HN := Lib.hid hn
  have HUS := Lib.hid hus
  have HUB := Lib.hid hub
  obtain ⟨c1, c2, c3⟩ := h.cells
  have hgl := h.row.lt
  clear hF hW hPS hus hub h hz hzd hn hll hp0 hlf hk hmv
  go_enter Tryd.func47, Tryd.ntmps47
  go_wp2_with (go_at_call 48; refine C.out.mono ?_; rintro e w1 ⟨A3, c3', rfl, hI, b⟩; have HI := Lib.hid hI; have HB := Lib.hid b; have HNL : (nums l).length = k := HKN.out; clear hI b)
  have HS1 := Lib.hid (HS.out.next HB.out)
  clear c1 c2 c3 hgl hrow C
  obtain ⟨c1, c2, c3⟩ := HS1.out.cells
  go_loop [6, 16] (fun s i => ∃ (j : Nat) (v : Int), j ≤ k ∧ i = .int .i64 j ∧ 0 ≤ v ∧ v ≤ 64000 ∧ Hid (v = most (lf.take j)) ∧ s = .int .i64 v) (fun _ i => k - (intOf i).toNat)
  case atStart => exact ⟨0, 0, Nat.zero_le _, by simp, by omega, by omega, Lib.hid rfl, rfl⟩
  case round =>
    obtain ⟨j, v, hj, rfl, hv0, hv1, hve, rfl⟩ := hrel
    by_cases hlt : j < k
    · obtain ⟨bk, o, q, rfl, hbg, hqj, hc1⟩ := HI.out.at_ (k := j) (by rw [HKN.out]; exact hlt)
      obtain ⟨p, rfl, hp⟩ := nums_get hqj
      have hpn := HMEM.out p (List.mem_of_getElem? hp)
      have hcu := HS1.out.up.cell (intsV_at (l := us) (j := p) (by rw [HUS.out]; exact hpn))
      have hub := HUB.out p hpn
      have hfj : lf[j]? = some (us.getD p 0) := by rw [HLF.out, List.getElem?_map, hp]; rfl
      have HMS := Lib.hid (most_snoc hfj)
      have hul := HS1.out.up.lt
      obtain ⟨u, hu⟩ : ∃ u, u = us.getD p 0 := ⟨_, rfl⟩
      rw [← hu] at hcu hub HMS
      clear hqj hp hfj hu
      by_cases hvz : v < u
      · have HMX := Lib.hid (show u = most (lf.take (j + 1)) by rw [HMS.out, ← hve.out, Int.max_eq_right (by omega)])
        go_wp2
        go_round
        case rel => exact ⟨j + 1, u, by omega, by go_num, by omega, by omega, HMX, by first | rfl | (simp; omega)⟩
        case measure => simp [intOf]; omega
      · have HMX := Lib.hid (show v = most (lf.take (j + 1)) by rw [HMS.out, ← hve.out, Int.max_eq_left (by omega)])
        go_wp2
        go_round
        case rel => exact ⟨j + 1, v, by omega, by go_num, by omega, by omega, HMX, by first | rfl | (simp; omega)⟩
        case measure => simp [intOf]; omega
    · obtain rfl : j = k := by omega
      have hl2 : lf.take j = lf := List.take_of_length_le (by rw [HFK.out]; omega)
      rw [hl2] at hve
      obtain ⟨bw, ow, z2, hA2, hbw, hzx, hcz⟩ := HS1.out.ints.at_ (k := x) (by rw [HN.out]; exact hx)
      obtain rfl : z2 = z := by
        have := HZ.out
        rw [hzx] at this
        exact Option.some.inj this
      subst hA2
      clear hzx
      go_wp2
      go_ret
      exact ⟨by rw [HMV.out, ← hve.out]; rfl, HB.out⟩
end
end Go.Proofs.YtpaambpajpmjdaaDoor
