/- The contract of trefoilref04.Long in the seat YtpaambpajpmjdaaDoor. No statement is proved here. -/
import Derived.Test.YtpaambpajpmjdaaDoorZM5
import Derived.BigRegion
import Derived.StillTailTactics
set_option linter.unusedSimpArgs false
set_option linter.unusedVariables false
namespace Go.Proofs.YtpaambpajpmjdaaDoor
open Go.RowKit

theorem OwnI.block {w : World} {base : Nat} {A : Option Addr} {n c : Nat} {zs : List Int} (h : OwnI w base (.slice A n c) zs) (h0 : 0 < zs.length) : ∃ g, A = some ⟨g, 0, none⟩ ∧ base ≤ g ∧ g < w.heap.size := by
  rcases h.2 with ⟨_, hn⟩ | ⟨g, cap, cur, hv, hg, hgg, _⟩
  · omega
  · injection hv with h1 h2 h3
    exact ⟨g, h1, hg, (Array.getElem?_eq_some_iff.1 hgg).1⟩
theorem OwnI.len {w : World} {base : Nat} {A : Option Addr} {n c : Nat} {zs : List Int} (h : OwnI w base (.slice A n c) zs) : n = zs.length := by
  rcases h.2 with ⟨hv, hn⟩ | ⟨g, cap, cur, hv, _⟩
  · injection hv with h1 h2 h3
    omega
  · injection hv with h1 h2 h3
theorem OwnI.cellAt {w : World} {base g c n : Nat} {zs : List Int} (h : OwnI w base (.slice (some ⟨g, 0, none⟩) n c) zs) {j : Nat} (hj : j < zs.length) : w.cell? ⟨g, j, none⟩ = some (.int .i64 (zs.getD j 0)) := by
  obtain rfl := h.len
  rw [World.ownsRow.cellAt h j (by omega), List.getElem?_map, List.getElem?_eq_getElem hj, List.getD_eq_getElem?_getD, List.getElem?_eq_getElem hj]
  rfl
theorem OwnI.frozenAt {w : World} {base g c n : Nat} {zs : List Int} (h : OwnI w base (.slice (some ⟨g, 0, none⟩) n c) zs) (j : Nat) : w.frozen? ⟨g, j, none⟩ = false := by
  obtain rfl := h.len
  exact World.ownsRow.frozenAt h j
theorem OwnI.stored {w : World} {base g c n : Nat} {zs : List Int} (h : OwnI w base (.slice (some ⟨g, 0, none⟩) n c) zs) (j : Nat) (z : Int) : OwnI (w.setCell ⟨g, j, none⟩ (.int .i64 z)) base (.slice (some ⟨g, 0, none⟩) n c) (zs.set j z) := by
  obtain rfl := h.len
  have := World.ownsRow.stored h j (.int .i64 z)
  unfold OwnI
  rw [List.length_set, List.map_set]
  exact this.1

/-- 'append([]int{}, l...)', as a list of the call's own. -/
theorem wpList_own {ops : Array Oper} {rest : List Oper} {o : Oper} {a : Act} {Q : Exit → Act → World → Prop} (hgd : o.guard = none) (s x : Operand)
    (ho : o.op = .call { callee := .builtin .append, args := #[s, x], argTypes := #[22, 22] })
    (w1 : World) (B : Nat) (A : Option Addr) (cap len : Nat) (zs : List Int) (hlen : zs.length = len) (hl : len ≤ 1000) (hI : Ints w1 B A zs) (hB : B ≤ w1.heap.size) (hA : A = none → cap = 0)
    (hs : a.eval s = .slice (some ⟨w1.heap.size, 0, none⟩) 0 0) (hx : a.eval x = .slice A len cap)
    (h : ∀ A' c' w', OwnI w' w1.heap.size (.slice A' len c') zs → Below w1.heap.size w1 w' → wpList Tryd.prog ops Q rest (a.put o.dst (.slice A' len c')) w') : wpList Tryd.prog ops Q (o :: rest) a (w1.alloc (.cells #[] 3)) := by
  obtain ⟨i0, hi0, hz0, hz1, hz2⟩ := info_parts int_cell_info
  have hown : OwnI (w1.alloc (.cells #[] 3)) w1.heap.size (.slice (some ⟨w1.heap.size, 0, none⟩) 0 0) [] := OwnI.new w1 w1.heap.size (Nat.le_refl _)
  subst hlen
  rcases A with _ | ad
  · have e0 : zs = [] := hI.none_nil
    have e1 : cap = 0 := hA rfl
    subst e0 e1
    exact wpList_append_own_none hgd s x 22 ho w1.heap.size 3 i0 1 Tryd.underlying22 hi0 _ 0 [] hs hown hx (h _ _ _ hown (below_alloc _))
  · refine wpList_append_own _ hgd s x 22 ho w1.heap.size 3 i0 (.int .i64 0) 1 8 Tryd.underlying22 hi0 hz0 hz1 hz2 rfl (by omega) _ 0 [] hs hown ad zs.length cap (zs.map (Value.int .i64)) hx (by simp) (hI.alloc hB _).cells (oneCell_ints zs)
      (by unfold maxLen; omega) (by omega) (by simp) ?_
    intro v' w' hown' hg _
    rw [Nat.zero_add, List.nil_append] at hown'
    have hO' : OwnI w' w1.heap.size v' zs := hown'
    obtain ⟨A', c', rfl, _⟩ := hO'.slice
    exact h A' c' w' hO' ((below_alloc _).grown hg (by simp) (by simp [Value.ownBlock]))
theorem roundL_snoc {W : List Int} {E : List (Int × Int)} {i : Nat} {e : Int × Int} (far : List Int) (h : E[i]? = some e) : roundL W (E.take (i + 1)) far = relaxL W (roundL W (E.take i) far) e := by
  rw [take_snoc' h]
  unfold roundL
  rw [List.foldl_append]
  rfl
theorem sum_le (W : List Int) (h : WorkOk W) : W.sum ≤ 1000 * W.length := by
  induction W with
  | nil => simp
  | cons z W ih =>
    have h1 := ih (fun x hx => h x (by simp [hx]))
    have h2 := h z (by simp)
    simp only [List.sum_cons, List.length_cons]
    omega
theorem wsum_pos {W : List Int} (h : WorkOk W) (p : List Nat) : 0 ≤ wsum W p := by
  induction p with
  | nil => exact Int.le_refl _
  | cons x q ih =>
    unfold wsum at ih ⊢
    simp only [List.map_cons, List.sum_cons]
    have h0 : 0 ≤ W.getD x 0 := by
      rw [List.getD_eq_getElem?_getD]
      cases hx : W[x]? with
      | none => exact Int.le_refl _
      | some z => exact (h z (List.mem_of_getElem? hx)).1
    omega
theorem far_in {W : List Int} {E : List (Int × Int)} (hF : Fits W.length E) (hA : Acyc E) (hW : WorkOk W) (j k : Nat) (b : Nat) (hb : b < W.length) :
    0 ≤ (roundL W (E.take k) (farK W E j)).getD b 0 ∧ (roundL W (E.take k) (farK W E j)).getD b 0 ≤ 1000 * W.length := by
  have h := roundL_sound hF (E.take k) (farK W E j) (fun e he => List.mem_of_mem_take he) (farK_sound hF j)
  obtain ⟨r, h1, h2, h3⟩ := h.2 b hb
  have h4 := wsum_le (fun z hz => (hW z hz).1) (h1.nodup hA) h2
  have h5 := wsum_pos hW (b :: r)
  have h6 := sum_le W hW
  omega
theorem roundL_length (W : List Int) (E : List (Int × Int)) (far : List Int) : (roundL W E far).length = far.length := ((roundL_le W E far).1).symm
theorem most_snoc {l : List Int} {j : Nat} {z : Int} (h : l[j]? = some z) : most (l.take (j + 1)) = max (most (l.take j)) z := by
  rw [take_snoc' h]
  unfold most
  rw [List.foldl_append]
  rfl

set_option maxRecDepth 100000 in
set_option maxHeartbeats 8000000 in
theorem rlong_any (A F : Option Addr) (n c m d : Nat) (W : List Int) (E : List (Int × Int)) (w : World) (hn : W.length = n) (hl : n ≤ 900) (hm : E.length = m) (hk : m ≤ 1000) (hW : WorkOk W) (hF : Fits n E) (hA : Acyc E) (hI : Ints w w.heap.size A W) (hP : Pairs w w.heap.size F E) (hc : A = none → c = 0) :
    Calls Tryd.prog 44 #[.agg #[.slice A n c, .slice F m d]] w fun e w' => e = .returned (.int .i64 (most (farK W E n))) ∧ Below w.heap.size w w' := by
  have HP := Lib.hid hP
  have HM := Lib.hid hm
  have HI := Lib.hid hI
  have HN := Lib.hid hn
  have HF := Lib.hid hF
  have HIN := Lib.hid (fun j k b hb => far_in (by rw [hn]; exact hF) hA hW j k b hb)
  have HFL := Lib.hid (fun j => farK_length W E j)
  have HC := Lib.hid hc
  obtain ⟨w0, hw0⟩ : ∃ w0, w0 = w.alloc (.cells #[.slice A n c, .slice F m d] 25) := ⟨_, rfl⟩
  have HW0 := Lib.hid hw0
  have HI0 : Hid (Ints w0 (w.heap.size + 1) A W) := Lib.hid (by rw [hw0]; exact (hI.alloc (Nat.le_refl _) _).more (by simp))
  obtain ⟨i0, hi0, hz0, hz1, hz2⟩ := info_parts int_cell_info
  obtain ⟨r, hr⟩ : ∃ r, r = most (farK W E n) := ⟨_, rfl⟩
  rw [← hr]
  have HR := Lib.hid hr
  clear hP hm hI hn hF hc hr hw0
  go_enter Tryd.func44, Tryd.ntmps44
  go_wp2_with (at_builtin; refine wpList_own rfl _ _ rfl (w.alloc (.cells #[.slice A n c, .slice F m d] 25)) (w.heap.size + 1) A c n W HN.out (by omega) (by rw [← HW0.out]; exact HI0.out) (by simp) HC.out (by simp [Act.eval]) rfl ?_; intro A1 c1 w1 HO1 HB1; (have HO1' := Lib.hid HO1); (have HB1' := Lib.hid HB1); clear HO1 HB1)
  have HO1 : Hid (OwnI w1 (w.heap.size + 1) (.slice A1 n c1) (farK W E 0)) := Lib.hid (by have h := HO1'.out; rwa [show (w.alloc (.cells #[.slice A n c, .slice F m d] 25)).heap.size = w.heap.size + 1 by simp] at h)
  have HB1 : Hid (Below (w.heap.size + 1) w0 w1) := Lib.hid (by have h := HB1'.out; rw [show (w.alloc (.cells #[.slice A n c, .slice F m d] 25)).heap.size = w.heap.size + 1 by simp] at h; rw [HW0.out]; exact h)
  clear HO1' HB1'
  go_loopw [4] (fun i wr => ∃ j : Nat, j ≤ n ∧ i = .int .i64 j ∧ Hid (OwnI wr (w.heap.size + 1) (.slice A1 n c1) (farK W E j)) ∧ Hid (Below (w.heap.size + 1) w0 wr)) (fun i _ => n - (intOf i).toNat)
  case atStart => exact ⟨0, Nat.zero_le _, rfl, HO1, HB1⟩
  case round =>
    obtain ⟨j, hj, rfl, HO, HB⟩ := hrel
    have hbox0 : wr.cell? ⟨w.heap.size, 0, none⟩ = some (.slice A n c) := (HB.out.cell (Nat.lt_succ_self _)).trans (by rw [HW0.out, World.cell?_alloc_at _ _ _ _ rfl]; rfl)
    have hbox1 : wr.cell? ⟨w.heap.size, 1, none⟩ = some (.slice F m d) := (HB.out.cell (Nat.lt_succ_self _)).trans (by rw [HW0.out, World.cell?_alloc_at _ _ _ _ rfl]; rfl)
    by_cases hlt : j < n
    · obtain ⟨g, rfl, hgb, _⟩ := HO.out.block (by rw [HFL.out, HN.out]; omega)
      go_wp2
      go_loopw [5] (fun i wi => ∃ k : Nat, k ≤ m ∧ i = .int .i64 k ∧ Hid (OwnI wi (w.heap.size + 1) (.slice (some ⟨g, 0, none⟩) n c1) (roundL W (E.take k) (farK W E j))) ∧ Hid (Below (w.heap.size + 1) w0 wi)) (fun i _ => m - (intOf i).toNat)
      case atStart => exact ⟨0, Nat.zero_le _, rfl, HO, HB⟩
      case round =>
        obtain ⟨k, hk2, rfl, HO2, HB2⟩ := hrel
        have hboxa : wr.cell? ⟨w.heap.size, 0, none⟩ = some (.slice A n c) := (HB2.out.cell (Nat.lt_succ_self _)).trans (by rw [HW0.out, World.cell?_alloc_at _ _ _ _ rfl]; rfl)
        have hboxb : wr.cell? ⟨w.heap.size, 1, none⟩ = some (.slice F m d) := (HB2.out.cell (Nat.lt_succ_self _)).trans (by rw [HW0.out, World.cell?_alloc_at _ _ _ _ rfl]; rfl)
        by_cases hlt2 : k < m
        · obtain ⟨bk, o, e, rfl, hbg, hek, hc1, hc2⟩ := HP.out.at_ (k := k) (by rw [HM.out]; exact hlt2)
          obtain ⟨x, y, rfl, hx, hy⟩ := fits_nat HF.out hek
          simp only at hc1 hc2
          have hd1 : wr.cell? ⟨bk, o + k * 2, none⟩ = some (.int .i64 x) := (HB2.out.cell (by show bk < _; omega)).trans (by rw [HW0.out, World.cell?_alloc_lt _ _ _ hbg]; exact hc1)
          have hd2 : wr.cell? ⟨bk, o + k * 2 + 1, none⟩ = some (.int .i64 y) := (HB2.out.cell (by show bk < _; omega)).trans (by rw [HW0.out, World.cell?_alloc_lt _ _ _ hbg]; exact hc2)
          obtain ⟨bw, ow, z, rfl, hbw, hzy, hcz⟩ := HI.out.at_ (k := y) (by rw [HN.out]; exact hy)
          have hdz : wr.cell? ⟨bw, ow + y, none⟩ = some (.int .i64 z) := (HB2.out.cell (by show bw < _; omega)).trans (by rw [HW0.out, World.cell?_alloc_lt _ _ _ hbw]; exact hcz)
          obtain ⟨far, hfar⟩ : ∃ far, far = roundL W (E.take k) (farK W E j) := ⟨_, rfl⟩
          have hfl : far.length = n := by rw [hfar, roundL_length, HFL.out, HN.out]
          have HN2 := Lib.hid (roundL_snoc (W := W) (farK W E j) hek)
          have hbx := HIN.out j k x (by rw [HN.out]; exact hx)
          have hby := HIN.out j k y (by rw [HN.out]; exact hy)
          have hz1 := hW z (List.mem_of_getElem? hzy)
          have hWy : W.getD y 0 = z := by rw [List.getD_eq_getElem?_getD, hzy]; rfl
          rw [← hfar] at HN2 HO2 hbx hby
          rw [HN.out] at hbx hby
          have ho1 := HO2.out.cellAt (j := x) (by rw [hfl]; exact hx)
          have ho2 := HO2.out.cellAt (j := y) (by rw [hfl]; exact hy)
          have hof := HO2.out.frozenAt y
          have hgl : g < wr.heap.size := (HO2.out.lt g rfl).2
          obtain ⟨fx, hfx⟩ : ∃ fx, fx = far.getD x 0 := ⟨_, rfl⟩
          obtain ⟨fy, hfy⟩ : ∃ fy, fy = far.getD y 0 := ⟨_, rfl⟩
          rw [← hfx] at hbx ho1
          rw [← hfy] at hby ho2
          have HX := Lib.hid hfx
          have HY := Lib.hid hfy
          have HZ := Lib.hid hWy
          have hsz2 : w.heap.size < wr.heap.size := by omega
          have hbw2 : bw < wr.heap.size := by omega
          have hbk2 : bk < wr.heap.size := by omega
          clear hc1 hc2 hek hfar hfl hfx hfy hWy hcz hzy hW
          by_cases hlt3 : fy < fx + z
          · have HST := Lib.hid (show roundL W (E.take (k + 1)) (farK W E j) = far.set y (fx + z) by
              rw [HN2.out]
              unfold relaxL
              simp only [Int.toNat_natCast]
              rw [← HX.out, ← HY.out, HZ.out, if_pos hlt3])
            go_wp2
            go_quiet (fail)
            go_wp2
            go_region
            go_wp2
            go_roundw
            case rel => exact ⟨k + 1, by omega, by go_num, Lib.hid (by rw [HST.out]; exact ((HO2.out.alloc _).below (below_drewN (Below.refl _ _) _)).stored y _), Lib.hid ((below_drewN (HB2.out.alloc (by omega) _) _).setCell (by show _ ≤ g; omega) _)⟩
            case measure => simp [intOf]; omega
          · have HST := Lib.hid (show roundL W (E.take (k + 1)) (farK W E j) = far by
              rw [HN2.out]
              unfold relaxL
              simp only [Int.toNat_natCast]
              rw [← HX.out, ← HY.out, HZ.out, if_neg hlt3])
            have hdf : decide (fy < fx + z) = false := decide_eq_false hlt3
            go_wp2
            go_quiet (fail)
            go_wp2
            go_roundw
            case rel => exact ⟨k + 1, by omega, by go_num, Lib.hid (by rw [HST.out]; exact (HO2.out.alloc _).below (below_drewN (Below.refl _ _) _)), Lib.hid (below_drewN (HB2.out.alloc (by omega) _) _)⟩
            case measure => simp [intOf]; omega
        · obtain rfl : k = m := by omega
          have HT : Hid (farK W E (j + 1) = roundL W (E.take k) (farK W E j)) := Lib.hid (by rw [List.take_of_length_le (by rw [HM.out]; omega)]; rfl)
          go_wp2
          go_roundw
          case rel => exact ⟨j + 1, by omega, by go_num, Lib.hid (by rw [HT.out]; exact HO2.out), HB2⟩
          case measure => simp [intOf]; omega
    · obtain rfl : j = n := by omega
      obtain ⟨far, hfar⟩ : ∃ far, far = farK W E j := ⟨_, rfl⟩
      have HFAR := Lib.hid hfar
      have hfl : far.length = j := by rw [hfar, HFL.out, HN.out]
      rw [← hfar] at HO HR
      have HFI : Hid (∀ b, b < far.length → 0 ≤ far.getD b 0 ∧ far.getD b 0 ≤ 1000 * (j : Int)) := Lib.hid (fun b hb => by
        have h := HIN.out j 0 b (by rw [HN.out, ← hfl]; exact hb)
        rw [HN.out] at h
        rw [hfar]
        exact h)
      have HFL2 := Lib.hid hfl
      have HI2 := Lib.hid (show Ints wr wr.heap.size A1 far by
        obtain ⟨A2, c2, he, hI⟩ := HO.out.slice
        injection he with h1 h2 h3
        subst h1
        exact hI)
      clear hfar hfl
      go_wp2
      go_loop [7, 8] (fun s i => ∃ (q : Nat) (v : Int), q ≤ j ∧ i = .int .i64 q ∧ 0 ≤ v ∧ v ≤ 1000 * (j : Int) ∧ Hid (v = most (far.take q)) ∧ s = .int .i64 v) (fun _ i => j - (intOf i).toNat)
      case atStart => exact ⟨0, 0, Nat.zero_le _, rfl, by omega, by omega, Lib.hid rfl, rfl⟩
      case round =>
        obtain ⟨q, v, hq, rfl, hv0, hv1, hve, rfl⟩ := hrel
        by_cases hlt2 : q < j
        · obtain ⟨bk, o, z, rfl, hbg, hzq, hc1⟩ := HI2.out.at_ (k := q) (by rw [HFL2.out]; exact hlt2)
          have hz := HFI.out q (by rw [HFL2.out]; exact hlt2)
          rw [List.getD_eq_getElem?_getD, hzq] at hz
          simp only [Option.getD_some] at hz
          have HMS := Lib.hid (most_snoc hzq)
          clear hzq
          by_cases hvz : v < z
          · have HMX := Lib.hid (show z = most (far.take (q + 1)) by rw [HMS.out, ← hve.out, Int.max_eq_right (by omega)])
            go_wp2
            go_round
            case rel => exact ⟨q + 1, z, by omega, by go_num, by omega, by omega, HMX, rfl⟩
            case measure => simp [intOf]; omega
          · have HMX := Lib.hid (show v = most (far.take (q + 1)) by rw [HMS.out, ← hve.out, Int.max_eq_left (by omega)])
            go_wp2
            go_round
            case rel => exact ⟨q + 1, v, by omega, by go_num, by omega, by omega, HMX, rfl⟩
            case measure => simp [intOf]; omega
        · obtain rfl : q = j := by omega
          have hl2 : far.take q = far := List.take_of_length_le (by rw [HFL2.out]; omega)
          rw [hl2] at hve
          go_wp2
          go_ret
          exact ⟨by rw [HR.out, ← hve.out]; rfl, (below_alloc _).trans (by rw [← HW0.out]; exact HB.out.mono (by omega))⟩
end Go.Proofs.YtpaambpajpmjdaaDoor
