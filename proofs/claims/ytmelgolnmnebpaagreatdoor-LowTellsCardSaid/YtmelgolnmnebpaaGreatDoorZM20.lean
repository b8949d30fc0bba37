/- dag.Before in the seat YtmelgolnmnebpaaGreatDoor: its contract.
   slices.Equal over integers and over edges, and dag.Same, in the seat YtmelgolnmnebpaaGreatDoor: their contracts.
   No statement is proved here. -/
import Derived.Test.YtmelgolnmnebpaaGreatDoorZM19
set_option linter.unusedSimpArgs false
set_option linter.unusedVariables false
namespace Go.Proofs.YtmelgolnmnebpaaGreatDoor
open Go.RowKit

theorem nums_get {l : List Nat} {j : Nat} {z : Int} (h : (nums l)[j]? = some z) : ∃ x : Nat, z = (x : Int) ∧ l[j]? = some x := by
  unfold nums at h
  rw [List.getElem?_map] at h
  cases hx : l[j]? with
  | none => rw [hx] at h; cases h
  | some x =>
    rw [hx] at h
    exact ⟨x, (Option.some.inj h).symm, rfl⟩
/-- What lies behind a, of the nodes that were met. -/
def Behind (E : List (Int × Int)) (a : Nat) (met : List Nat) (T : Nat) : Prop := ∀ x, T.testBit x = true ↔ x ∈ met ∧ Way E a x
theorem behind_nil (E : List (Int × Int)) (a : Nat) : Behind E a [] 0 := fun x => by simp
theorem behind_cond {n : Nat} {E : List (Int × Int)} {out ps : List Nat} (hO : Ordered n E out) (hP : PredsOf n E ps) {a j x f T : Nat} (hf : ∀ i, f.testBit i = decide (a = i)) (hT : Behind E a (out.take j) T) (hx : out[j]? = some x) :
    ps.getD x 0 &&& (f ||| T) ≠ 0 ↔ Way E a x := by
  have hxn : x < n := hO.lt x (List.mem_of_getElem? hx)
  rw [and_ne_zero_iff, ← way_order hO hx]
  constructor
  · rintro ⟨i, h1, h2⟩
    rw [hP.bit x hxn, decide_eq_true_iff] at h1
    rw [Nat.testBit_or, Bool.or_eq_true, hf, decide_eq_true_iff] at h2
    exact ⟨i, h1, h2.imp Eq.symm (hT i).mp⟩
  · rintro ⟨p, h1, h2⟩
    refine ⟨p, by rw [hP.bit x hxn]; exact decide_eq_true h1, ?_⟩
    rw [Nat.testBit_or, Bool.or_eq_true, hf, decide_eq_true_iff]
    exact h2.imp Eq.symm (hT p).mpr
theorem behind_more {E : List (Int × Int)} {out : List Nat} {a j x T : Nat} (hT : Behind E a (out.take j) T) (hx : out[j]? = some x) (hw : Way E a x) : Behind E a (out.take (j + 1)) (T ||| 2 ^ x) := fun i => by
  rw [or_bit_testBit, Bool.or_eq_true, hT i, decide_eq_true_iff, take_snoc' hx, List.mem_append, List.mem_singleton]
  constructor
  · rintro (⟨h1, h2⟩ | rfl)
    · exact ⟨.inl h1, h2⟩
    · exact ⟨.inr rfl, hw⟩
  · rintro ⟨h1 | h1, h2⟩
    · exact .inl ⟨h1, h2⟩
    · exact .inr h1.symm
theorem behind_skip {E : List (Int × Int)} {out : List Nat} {a j x T : Nat} (hT : Behind E a (out.take j) T) (hx : out[j]? = some x) (hw : ¬ Way E a x) : Behind E a (out.take (j + 1)) T := fun i => by
  rw [hT i, take_snoc' hx, List.mem_append, List.mem_singleton]
  constructor
  · rintro ⟨h1, h2⟩
    exact ⟨.inl h1, h2⟩
  · rintro ⟨h1 | rfl, h2⟩
    · exact ⟨h1, h2⟩
    · exact absurd h2 hw

section
variable {A : Option Addr} {n c : Nat} {F : Option Addr} {m d : Nat} {W : List Int} {E : List (Int × Int)}
theorem beforeV_out {a b : Int} (hF : Fits n E) (h : ¬ ((0 ≤ a ∧ a < n) ∧ (0 ≤ b ∧ b < n))) : beforeV W E a b = false := by
  unfold beforeV
  rw [if_neg]
  rintro ⟨_, h1, h2, h3⟩
  have := h3.lt hF
  exact h ⟨⟨h1, by omega⟩, h2, by omega⟩
set_option maxHeartbeats 8000000 in
theorem before_done (w : World) (a b : Int) (h : IsG w A n c F m d W E) :
    Calls Tryz.prog 31 #[.agg #[.slice A n c, .slice F m d], .int .i64 a, .int .i64 b] w fun e w' => e = .returned (.bool (beforeV W E a b)) ∧ Below w.heap.size w w' := by
  have H := Lib.hid h
  have ln := h.ln
  have CA := Lib.hid (fun W' => is_node a n W' (by omega))
  have CB := Lib.hid (fun W' => is_node b n W' (by omega))
  by_cases hM : May W E
  · have C := Lib.hid (fun w' (h : IsG w' A n c F m d W E) => read_ok w' h hM)
    have hF : Fits n E := by rw [← h.hn]; exact hM.fits
    have hn64 : n ≤ 64 := by rw [← h.hn]; exact hM.nodes
    by_cases ha : 0 ≤ a ∧ a < n
    · rw [decide_eq_true ha] at CA
      by_cases hb : 0 ≤ b ∧ b < n
      · rw [decide_eq_true hb] at CB
        obtain ⟨x, rfl⟩ := Int.eq_ofNat_of_zero_le ha.1
        obtain ⟨y, rfl⟩ := Int.eq_ofNat_of_zero_le hb.1
        have hx : x < n := by omega
        have hy : y < n := by omega
        have HORD := Lib.hid (ordK_ordered hF n)
        have HOL := Lib.hid (ordK_length hF hM.acyc n (Nat.le_refl _))
        have HV0 := Lib.hid (show beforeV W E x y = true ↔ Way E x y by
          unfold beforeV
          constructor
          · intro q
            split at q
            · rename_i k
              simpa using k.2.2.2
            · cases q
          · intro q
            rw [if_pos ⟨hM, by omega, by omega, by simpa using q⟩])
        obtain ⟨r, hr⟩ : ∃ r, r = beforeV W E x y := ⟨_, rfl⟩
        rw [← hr] at HV0 ⊢
        have C1 := Lib.hid (fun W' => set_with 0 x W' (by decide) (by omega))
        have HFB : Hid (∀ i, (0 ||| 2 ^ x).testBit i = decide (x = i)) := Lib.hid (fun i => by rw [or_bit_testBit, Nat.zero_testBit, Bool.false_or])
        have hf64 : 0 ||| 2 ^ x < 18446744073709551616 := Nat.or_lt_two_pow (n := 64) (by decide) (Nat.pow_lt_pow_right (by decide) (by omega))
        obtain ⟨f, hf⟩ : ∃ f, f = 0 ||| 2 ^ x := ⟨_, rfl⟩
        rw [← hf] at HFB hf64
        simp only [← hf] at C1
        have CW := Lib.hid (fun s j hs hj W' => set_with s j W' hs hj)
        have CH := Lib.hid (fun s hs W' => set_has s y W' hs (by omega))
        clear h hM hF ha hb hr hf
        go_enter Tryz.func31, Tryz.ntmps31
        go_wp2_with fail
        refine (C.out _ (H.out.below (below_alloc _))).mono ?_
        rintro e w1 ⟨g, A', c', rfl, hR⟩
        have HB := Lib.hid ((below_alloc _).trans (hR.bel.mono (by simp)))
        have HR2 := Lib.hid (hR.next (below_alloc (.cells #[.slice (some ⟨g, 0, none⟩) n n, .slice A' n c'] 94)))
        have HB2 := Lib.hid (HB.out.alloc HB.out.size (.cells #[.slice (some ⟨g, 0, none⟩) n n, .slice A' n c'] 94))
        have hs1 := HB.out.size
        clear hR
        go_wp2_with (first
          | (go_at_call_of 58 (Value.int .i64 (x : Int)); refine (CA.out _).mono ?_; rintro e w' ⟨rfl, rfl⟩)
          | (go_at_call_of 58 (Value.int .i64 (y : Int)); refine (CB.out _).mono ?_; rintro e w' ⟨rfl, rfl⟩)
          | (go_at_call 59; refine (C1.out _).mono ?_; rintro e w' ⟨rfl, rfl⟩))
        obtain ⟨w2, hw2⟩ : ∃ w2, w2 = w1.alloc (.cells #[.slice (some ⟨g, 0, none⟩) n n, .slice A' n c'] 94) := ⟨_, rfl⟩
        have hbox0 : w2.cell? ⟨w1.heap.size, 0, none⟩ = some (.slice (some ⟨g, 0, none⟩) n n) := by rw [hw2, World.cell?_alloc_at _ _ _ _ rfl]; rfl
        rw [← hw2] at HR2 HB2 ⊢
        obtain ⟨ps, hV, hPS⟩ := HR2.out.row
        have HV := Lib.hid hV
        have HPS := Lib.hid hPS
        have hgl := hV.lt
        clear hw2 hV hPS
        go_loop [10, 41] (fun tv i => ∃ (j T : Nat), j ≤ n ∧ i = .int .i64 j ∧ tv = .int .u64 T ∧ T < 18446744073709551616 ∧ Hid (Behind E x ((ord n E).take j) T)) (fun _ i => n - (intOf i).toNat)
        case atStart => exact ⟨0, 0, Nat.zero_le _, rfl, rfl, by decide, Lib.hid (behind_nil E x)⟩
        case round =>
          obtain ⟨j, T, hj, rfl, rfl, hT64, HTB⟩ := hrel
          by_cases hlt : j < n
          · obtain ⟨bk, o, z, rfl, hbg, hzj, hc1⟩ := HR2.out.ints.at_ (k := j) (by rw [nums_length]; exact (show j < (ordK n E n).length by rw [HOL.out]; exact hlt))
            obtain ⟨u, rfl, hu⟩ := nums_get hzj
            have hun : u < n := HORD.out.lt u (List.mem_of_getElem? hu)
            have hc := HV.out.cell (natsV_at (ps := ps) (j := u) (by rw [HPS.out.len]; exact hun))
            have HCO := Lib.hid (behind_cond HORD.out HPS.out HFB.out HTB.out hu)
            have HMO := Lib.hid (behind_more HTB.out hu)
            have HSK := Lib.hid (behind_skip HTB.out hu)
            have hor : T ||| 2 ^ u < 18446744073709551616 := Nat.or_lt_two_pow (n := 64) hT64 (Nat.pow_lt_pow_right (by decide) (by omega))
            have C2 := Lib.hid (fun W' => CW.out T u hT64 (by omega) W')
            have hps := HPS.out.lt u hun
            have hfT : f ||| T < 18446744073709551616 := Nat.or_lt_two_pow (n := 64) hf64 hT64
            obtain ⟨p, hp⟩ : ∃ p, p = ps.getD u 0 := ⟨_, rfl⟩
            rw [← hp] at hc HCO hps
            have hb1 := bits_or_u64_nat f T hf64 hT64
            obtain ⟨q, hq⟩ : ∃ q, q = f ||| T := ⟨_, rfl⟩
            rw [← hq] at hb1 HCO hfT
            have hb2 := bits_and_u64_nat p q hps hfT
            obtain ⟨z, hz⟩ : ∃ z, z = p &&& q := ⟨_, rfl⟩
            rw [← hz] at hb2 HCO
            clear hp hq hz hzj hu
            by_cases hz0 : z = 0
            · have HNW := Lib.hid (HSK.out (fun k => HCO.out.mpr k hz0))
              have hze : ((z : Int) != 0) = false := by simpa using hz0
              clear hz0
              go_wp2
              go_round
              case rel => exact ⟨j + 1, T, by omega, by go_num, rfl, hT64, HNW⟩
              case measure => simp [intOf]; omega
            · have HW := Lib.hid (HMO.out (HCO.out.mp hz0))
              have hze : ((z : Int) != 0) = true := by simpa using hz0
              clear hz0
              go_wp2_with (go_at_call 59; refine (C2.out _).mono ?_; rintro e w' ⟨rfl, rfl⟩)
              go_round
              case rel => exact ⟨j + 1, T ||| 2 ^ u, by omega, by go_num, rfl, hor, HW⟩
              case measure => simp [intOf]; omega
          · obtain rfl : j = n := by omega
            have HE := Lib.hid (show T.testBit y = r by
              rw [Bool.eq_iff_iff, HV0.out, HTB.out y]
              constructor
              · exact And.right
              · intro k
                refine ⟨?_, k⟩
                rw [List.take_of_length_le (Nat.le_of_eq (show (ord j E).length = j from HOL.out))]
                exact HORD.out.all HOL.out y hy)
            have C3 := Lib.hid (CH.out T hT64 w2)
            rw [HE.out] at C3
            go_wp2_with (go_at_call 60; refine C3.out.mono ?_; rintro e w3 ⟨rfl, rfl⟩)
            go_ret
            exact ⟨rfl, HB2.out⟩
      · rw [decide_eq_false hb] at CB
        rw [beforeV_out hF (fun q => hb q.2)]
        have hab : ¬ a = b := fun q => hb (q ▸ ha)
        clear h hM hF ha hb
        go_enter Tryz.func31, Tryz.ntmps31
        go_wp2_with fail
        refine (C.out _ (H.out.below (below_alloc _))).mono ?_
        rintro e w1 ⟨g, A', c', rfl, hR⟩
        have HB := Lib.hid ((below_alloc _).trans (hR.bel.mono (by simp)))
        clear hR
        go_wp2_with (first
          | (go_at_call_of 58 (Value.int .i64 a); refine (CA.out _).mono ?_; rintro e w' ⟨rfl, rfl⟩)
          | (go_at_call_of 58 (Value.int .i64 b); refine (CB.out _).mono ?_; rintro e w' ⟨rfl, rfl⟩))
        go_ret
        exact ⟨rfl, HB.out.alloc HB.out.size _⟩
    · rw [decide_eq_false ha] at CA
      rw [beforeV_out hF (fun q => ha q.1)]
      clear h hM hF ha
      go_enter Tryz.func31, Tryz.ntmps31
      go_wp2_with fail
      refine (C.out _ (H.out.below (below_alloc _))).mono ?_
      rintro e w1 ⟨g, A', c', rfl, hR⟩
      have HB := Lib.hid ((below_alloc _).trans (hR.bel.mono (by simp)))
      clear hR
      go_wp2_with (go_at_call 58; refine (CA.out _).mono ?_; rintro e w' ⟨rfl, rfl⟩)
      go_ret
      exact ⟨rfl, HB.out.alloc HB.out.size _⟩
  · have C := Lib.hid (fun w' (h : IsG w' A n c F m d W E) => read_not w' h hM)
    have HO : beforeV W E a b = false := by unfold beforeV; rw [if_neg (fun q => hM q.1)]
    rw [HO]
    have hc : (chkE W E != 0) = true := by
      rw [bne_iff_ne]
      exact fun q => hM (chkE_zero.mp q)
    obtain ⟨r, hr⟩ : ∃ r, r = chkE W E := ⟨_, rfl⟩
    rw [← hr] at C hc
    clear h hM hr HO
    go_enter Tryz.func31, Tryz.ntmps31
    go_wp2_with fail
    refine (C.out _ (H.out.below (below_alloc _))).mono ?_
    rintro e w1 ⟨rfl, b⟩
    have HB := Lib.hid ((below_alloc _).trans (b.mono (by simp)))
    clear b
    go_wp2
    go_ret
    exact ⟨rfl, HB.out.alloc HB.out.size _⟩
end
end Go.Proofs.YtmelgolnmnebpaaGreatDoor
set_option linter.unusedVariables false
namespace Go.Proofs.YtmelgolnmnebpaaGreatDoor
open Go.RowKit

set_option maxHeartbeats 800000 in
theorem eq_ints (B : Nat) (A1 A2 : Option Addr) (c1 c2 : Nat) (xs ys : List Int) (w : World) (hx : xs.length ≤ 1000) (hy : ys.length ≤ 1000) (h1 : Ints w B A1 xs) (h2 : Ints w B A2 ys) :
    Calls Tryz.prog 54 #[.slice A1 xs.length c1, .slice A2 ys.length c2] w fun e w' => e = .returned (.bool (decide (xs = ys))) ∧ ∃ N, w' = w.drewN N := by
  obtain ⟨n, hn⟩ : ∃ n, n = xs.length := ⟨_, rfl⟩
  obtain ⟨m, hm⟩ : ∃ m, m = ys.length := ⟨_, rfl⟩
  rw [← hn, ← hm]
  rw [← hn] at hx
  rw [← hm] at hy
  have HN := Lib.hid hn
  have HM := Lib.hid hm
  have H1 := Lib.hid h1
  have H2 := Lib.hid h2
  clear hn hm h1 h2
  by_cases hnm : n = m
  · subst hnm
    go_enter Tryz.func54, Tryz.ntmps54
    go_wp2
    go_loopw [13] (fun i wr => ∃ j N : Nat, j ≤ n ∧ i = .int .i64 j ∧ Hid (xs.take j = ys.take j) ∧ wr = w.drewN N) (fun i _ => n - (intOf i).toNat)
    case atStart => exact ⟨0, 0, Nat.zero_le _, rfl, Lib.hid rfl, rfl⟩
    case round =>
      obtain ⟨j, N, hj, rfl, HT, rfl⟩ := hrel
      by_cases hlt : j < n
      · obtain ⟨b1, o1, x, rfl, _, hx1, hc1⟩ := H1.out.at_ (k := j) (by rw [← HN.out]; exact hlt)
        obtain ⟨b2, o2, y, rfl, _, hy1, hc2⟩ := H2.out.at_ (k := j) (by rw [← HM.out]; exact hlt)
        have HX := Lib.hid hx1
        have HY := Lib.hid hy1
        clear hx1 hy1
        by_cases hxy : x = y
        · subst hxy
          go_wp2
          go_quiet (fail)
          go_wp2
          go_roundw
          case rel => exact ⟨j + 1, _, by omega, by go_num, Lib.hid (take_next HT.out HX.out HY.out), rfl⟩
          case measure => simp [intOf]; omega
        · have hb : (x != y) = true := by simpa using hxy
          have HXY := Lib.hid hxy
          clear hxy
          go_wp2
          go_quiet (fail)
          go_wp2
          go_ret
          exact ⟨by rw [decide_eq_false (take_part HX.out HY.out HXY.out)]; rfl, _, drews w N _⟩
      · obtain rfl : j = n := by omega
        go_wp2
        go_ret
        exact ⟨by rw [decide_eq_true (take_ext (by rw [← HN.out, ← HM.out]) (by rw [← HN.out]; exact HT.out))]; rfl, _, rfl⟩
  · have hb : ((n : Int) != (m : Int)) = true := by simp; omega
    go_enter Tryz.func54, Tryz.ntmps54
    go_wp2
    go_ret
    exact ⟨by rw [decide_eq_false (fun e : xs = ys => hnm (by rw [HN.out, HM.out, e]))]; rfl, 0, rfl⟩
set_option maxHeartbeats 800000 in
theorem eq_edges (B : Nat) (A1 A2 : Option Addr) (c1 c2 : Nat) (xs ys : List (Int × Int)) (w : World) (hx : xs.length ≤ 1000) (hy : ys.length ≤ 1000) (h1 : Pairs w B A1 xs) (h2 : Pairs w B A2 ys) :
    Calls Tryz.prog 95 #[.slice A1 xs.length c1, .slice A2 ys.length c2] w fun e w' => e = .returned (.bool (decide (xs = ys))) ∧ ∃ N, w' = w.drewN N := by
  obtain ⟨n, hn⟩ : ∃ n, n = xs.length := ⟨_, rfl⟩
  obtain ⟨m, hm⟩ : ∃ m, m = ys.length := ⟨_, rfl⟩
  rw [← hn, ← hm]
  rw [← hn] at hx
  rw [← hm] at hy
  have HN := Lib.hid hn
  have HM := Lib.hid hm
  have H1 := Lib.hid h1
  have H2 := Lib.hid h2
  clear hn hm h1 h2
  by_cases hnm : n = m
  · subst hnm
    go_enter Tryz.func95, Tryz.ntmps95
    go_wp2
    go_loopw [13] (fun i wr => ∃ j N : Nat, j ≤ n ∧ i = .int .i64 j ∧ Hid (xs.take j = ys.take j) ∧ wr = w.drewN N) (fun i _ => n - (intOf i).toNat)
    case atStart => exact ⟨0, 0, Nat.zero_le _, rfl, Lib.hid rfl, rfl⟩
    case round =>
      obtain ⟨j, N, hj, rfl, HT, rfl⟩ := hrel
      by_cases hlt : j < n
      · obtain ⟨b1, o1, ⟨x1, x2⟩, rfl, _, hx1, hc1, hc2⟩ := H1.out.at_ (k := j) (by rw [← HN.out]; exact hlt)
        obtain ⟨b2, o2, ⟨y1, y2⟩, rfl, _, hy1, hd1, hd2⟩ := H2.out.at_ (k := j) (by rw [← HM.out]; exact hlt)
        simp only at hc1 hc2 hd1 hd2
        have hrun := fun W => edge_neq_run x1 x2 y1 y2 W
        have HX := Lib.hid hx1
        have HY := Lib.hid hy1
        clear hx1 hy1
        by_cases hxy : (x1, x2) = (y1, y2)
        · injection hxy with h1 h2
          subst h1 h2
          have hb : (x1 == x1 && x2 == x2) = true := by simp
          simp only [hb] at hrun
          go_wp2
          go_quiet (fail)
          go_wp2
          go_roundw
          case rel => exact ⟨j + 1, _, by omega, by go_num, Lib.hid (take_next HT.out HX.out HY.out), rfl⟩
          case measure => simp [intOf]; omega
        · have hb : (x1 == y1 && x2 == y2) = false := by
            rw [Bool.and_eq_false_iff]
            by_cases h1 : x1 = y1
            · exact .inr (by simpa using fun h2 => hxy (by rw [h1, h2]))
            · exact .inl (by simpa using h1)
          simp only [hb] at hrun
          have HXY := Lib.hid hxy
          clear hxy
          go_wp2
          go_quiet (fail)
          go_wp2
          go_ret
          exact ⟨by rw [decide_eq_false (take_part HX.out HY.out HXY.out)]; rfl, _, drews w N _⟩
      · obtain rfl : j = n := by omega
        go_wp2
        go_ret
        exact ⟨by rw [decide_eq_true (take_ext (by rw [← HN.out, ← HM.out]) (by rw [← HN.out]; exact HT.out))]; rfl, _, rfl⟩
  · have hb : ((n : Int) != (m : Int)) = true := by simp; omega
    go_enter Tryz.func95, Tryz.ntmps95
    go_wp2
    go_ret
    exact ⟨by rw [decide_eq_false (fun e : xs = ys => hnm (by rw [HN.out, HM.out, e]))]; rfl, 0, rfl⟩

section
variable {A : Option Addr} {n c : Nat} {F : Option Addr} {m d : Nat} {W : List Int} {E : List (Int × Int)} {A' : Option Addr} {n' c' : Nat} {F' : Option Addr} {m' d' : Nat} {W' : List Int} {E' : List (Int × Int)}
set_option maxHeartbeats 2000000 in
theorem same_done (w : World) (h : IsG w A n c F m d W E) (h' : IsG w A' n' c' F' m' d' W' E') :
    Calls Tryz.prog 62 #[.agg #[.slice A n c, .slice F m d], .agg #[.slice A' n' c', .slice F' m' d']] w fun e w' => e = .returned (.bool (decide (W = W' ∧ E = E'))) ∧ Below w.heap.size w w' := by
  obtain ⟨w0, hw0⟩ : ∃ w0, w0 = (w.alloc (.cells #[.slice A n c, .slice F m d] 32)).alloc (.cells #[.slice A' n' c', .slice F' m' d'] 32) := ⟨_, rfl⟩
  have hs : w.heap.size ≤ (w.alloc (.cells #[.slice A n c, .slice F m d] 32)).heap.size := by simp
  have C1 := eq_ints w.heap.size A A' c c' W W' w0 (by rw [h.hn]; have := h.ln; omega) (by rw [h'.hn]; have := h'.ln; omega) (by rw [hw0]; exact (h.ints.alloc (Nat.le_refl _) _).alloc hs _) (by rw [hw0]; exact (h'.ints.alloc (Nat.le_refl _) _).alloc hs _)
  have C2 := Lib.hid (fun N => eq_edges w.heap.size F F' d d' E E' (w0.drewN N) (by rw [h.hm]; have := h.lm; omega) (by rw [h'.hm]; have := h'.lm; omega)
    (by rw [hw0]; exact ((h.pairs.alloc (Nat.le_refl _) _).alloc hs _).below (below_drewN (Below.refl _ _) N)) (by rw [hw0]; exact ((h'.pairs.alloc (Nat.le_refl _) _).alloc hs _).below (below_drewN (Below.refl _ _) N)))
  rw [h.hn, h'.hn] at C1
  simp only [h.hm, h'.hm] at C2
  rw [hw0] at C1 C2
  have HB := Lib.hid (fun N => below_drewN (below_alloc2 (w := w) (.cells #[.slice A n c, .slice F m d] 32) (.cells #[.slice A' n' c', .slice F' m' d'] 32)) N)
  have HC1 := Lib.hid C1
  clear h h' hw0 C1 hs
  by_cases h1 : W = W'
  · rw [decide_eq_true h1] at HC1
    have hr : decide (W = W' ∧ E = E') = decide (E = E') := by simp [h1]
    rw [hr]
    obtain ⟨r, hr⟩ : ∃ r, r = decide (E = E') := ⟨_, rfl⟩
    simp only [← hr] at C2 ⊢
    clear h1 hr
    go_enter Tryz.func62, Tryz.ntmps62
    go_wp2_with (first
      | (go_at_call 54; refine HC1.out.mono ?_; rintro e w' ⟨rfl, N, rfl⟩)
      | (go_at_call 95; refine (C2.out _).mono ?_; rintro e w' ⟨rfl, M, rfl⟩))
    go_ret
    exact ⟨rfl, HB.out _⟩
  · rw [decide_eq_false h1] at HC1
    rw [decide_eq_false (fun q : W = W' ∧ E = E' => h1 q.1)]
    clear h1
    go_enter Tryz.func62, Tryz.ntmps62
    go_wp2_with (go_at_call 54; refine HC1.out.mono ?_; rintro e w' ⟨rfl, N, rfl⟩)
    go_ret
    exact ⟨rfl, HB.out N⟩
end
end Go.Proofs.YtmelgolnmnebpaaGreatDoor
