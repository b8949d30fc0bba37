/- The walk of DescCounts in the seat YtpckmhmabmmllaaDoor, given what the program's functions answer (printed by desc/mk_walks.py). No statement is proved here. -/
import Derived.Test.YtpckmhmabmmllaaDoorZDescWalk0
set_option linter.unusedVariables false
namespace Go.Proofs.YtpckmhmabmmllaaDoor
open Go.RowKit

/-! Plain: each edge, and each future, feeds one part, once -/
def cntL (l : List Int) (u : Int) : Nat := (l.filter fun x => decide (x = u)).length
def sumC (l : List Int) : Nat → Nat
  | 0 => 0
  | k + 1 => sumC l k + cntL l (k : Int)
theorem sumC_nil : ∀ k, sumC [] k = 0
  | 0 => rfl
  | k + 1 => by rw [sumC, sumC_nil k]; rfl
theorem cntL_cons (x : Int) (l : List Int) (u : Int) : cntL (x :: l) u = (if x = u then 1 else 0) + cntL l u := by
  unfold cntL
  by_cases h : x = u
  · rw [if_pos h]
    simp [List.filter, h]
    omega
  · rw [if_neg h]
    simp [List.filter, h]
theorem sumC_cons (x : Int) (l : List Int) (hx : 0 ≤ x) : ∀ k, sumC (x :: l) k = (if x < k then 1 else 0) + sumC l k
  | 0 => by rw [sumC, sumC, if_neg (by omega)]
  | k + 1 => by
    rw [sumC, sumC, sumC_cons x l hx k, cntL_cons]
    by_cases h1 : x < k
    · rw [if_pos h1, if_neg (by omega), if_pos (by omega)]
      omega
    · by_cases h2 : x = k
      · rw [if_neg h1, if_pos h2, if_pos (by omega)]
        omega
      · rw [if_neg h1, if_neg h2, if_neg (by omega)]
        omega
theorem sumC_all : ∀ (l : List Int) (n : Nat), (∀ x ∈ l, 0 ≤ x ∧ x < n) → sumC l n = l.length
  | [], n, _ => sumC_nil n
  | x :: l, n, h => by
    rw [sumC_cons x l (h x (List.mem_cons_self ..)).1, if_pos (h x (List.mem_cons_self ..)).2, sumC_all l n fun y hy => h y (List.mem_cons_of_mem _ hy), List.length_cons]
    omega
theorem feE_cnt (es : List (Int × Int)) (u : Int) : (feE es u).length = cntL (es.map fun e => e.2) u := by
  unfold feE cntL
  rw [List.length_map, List.filter_map, List.length_map]
  rfl
theorem ownF_cnt (fs : List (Int × Int × Int)) (u : Int) : ∀ k, k ≤ fs.length → (ownF fs u k).length = cntL ((fs.take k).map fun f => f.2.1) u
  | 0, _ => rfl
  | k + 1, h => by
    obtain ⟨f, hf⟩ : ∃ f, fs[k]? = some f := ⟨_, List.getElem?_eq_getElem (by omega)⟩
    have ih := ownF_cnt fs u k (by omega)
    rw [ownF_step hf, take_snoc' hf, List.map_append]
    unfold cntL at ih ⊢
    rw [List.filter_append, List.length_append, ← ih]
    by_cases h1 : f.2.1 = u
    · rw [if_pos h1]
      simp [List.filter, h1]
    · rw [if_neg h1]
      simp [List.filter, h1]
theorem touL_cnt {ps fs : List (Int × Int × Int)} (hps : partsOk ps) (hfs : FutsOk ps fs) (u : Int) : (touL fs u).length = cntL (fs.map fun f => f.2.1) u := by
  have h := ownF_cnt fs u fs.length (Nat.le_refl _)
  rw [List.take_length] at h
  rw [← h]
  have hp : (touL fs u).Perm (ownF fs u fs.length) := by
    have hn : (touL fs u).Nodup := by unfold touL; exact touK_nodup fs u 99
    refine (List.perm_ext_iff_of_nodup hn (ownF_nodup _ _ _)).mpr fun j => ?_
    unfold touL
    rw [mem_touK, mem_ownF]
    constructor
    · exact fun k => ⟨k.1, k.2.1⟩
    · rintro ⟨h1, h2⟩
      have hf := hfs.each _ (futAt_mem h1)
      have hu := hf.user
      obtain ⟨e, he⟩ : ∃ e, ps[(futAt fs j).2.1.toNat]? = some e := ⟨_, List.getElem?_eq_getElem (by omega)⟩
      have hl := hf.last e he
      have hw := (hps e (List.mem_of_getElem? he)).2.2.2.2.2
      exact ⟨h1, h2, hf.first, by show _ ≤ (99 : Int); omega⟩
  exact hp.length_eq
/-- The first k parts' feeds together. -/
def sumF (T : Task) : Nat → Nat
  | 0 => 0
  | k + 1 => sumF T k + (feedsL T.edges T.futures (k : Int)).length
theorem sumF_eq {T : Task} (hM : MayT T) : ∀ k, sumF T k = sumC (T.edges.map fun e => e.2) k + sumC (T.futures.map fun f => f.2.1) k
  | 0 => rfl
  | k + 1 => by
    have h1 := sumF_eq hM k
    have h2 : (feedsL T.edges T.futures (k : Int)).length = cntL (T.edges.map fun e => e.2) k + cntL (T.futures.map fun f => f.2.1) k := by
      unfold feedsL feF
      rw [List.length_append, List.length_map, feE_cnt, touL_cnt hM.parts hM.futures]
    rw [sumF, sumC, sumC, h1, h2]
    omega
theorem sumF_all {T : Task} (hM : MayT T) : sumF T T.parts.length = T.edges.length + T.futures.length := by
  rw [sumF_eq hM, sumC_all _ _ fun x hx => ?_, sumC_all _ _ fun x hx => ?_, List.length_map, List.length_map]
  · obtain ⟨f, hf, rfl⟩ := List.mem_map.mp hx
    exact (hM.futures.each f hf).user
  · obtain ⟨e, he, rfl⟩ := List.mem_map.mp hx
    have := hM.edges.1 e he
    exact ⟨this.2.2.1, this.2.2.2⟩
theorem sumF_mono (T : Task) : ∀ k d, sumF T k ≤ sumF T (k + d)
  | k, 0 => Nat.le_refl _
  | k, d + 1 => by
    have := sumF_mono T k d
    rw [← Nat.add_assoc, sumF]
    omega
theorem feed_part {T : Task} (hM : MayT T) {u : Int} {z : Int} (hz : z ∈ feedsL T.edges T.futures u) : (0 ≤ z ∧ z < T.parts.length) ∧ z ≠ u := by
  unfold feedsL at hz
  rcases List.mem_append.mp hz with h | h
  · unfold feE at h
    obtain ⟨e, he, rfl⟩ := List.mem_map.mp h
    rw [List.mem_filter, decide_eq_true_iff] at he
    have h1 := hM.edges.1 e he.1
    have h2 := hM.edges.2.1 e he.1
    exact ⟨⟨h1.1, h1.2.1⟩, fun q => h2 (by rw [he.2]; exact q)⟩
  · unfold feF at h
    obtain ⟨j, hj, rfl⟩ := List.mem_map.mp h
    unfold touL at hj
    obtain ⟨h1, h2, _, _⟩ := mem_touK.mp hj
    have hf := hM.futures.each _ (futAt_mem h1)
    exact ⟨hf.maker, fun q => hf.apart (by rw [h2]; exact q)⟩
set_option maxRecDepth 100000 in
set_option maxHeartbeats 8000000 in
theorem counts_few (K : DescOk) (w : World) (s : Sh) (T : Task) (hT : DTab w) (h : InD w s T) (f : FewD T) :
    Calls Tryd.prog 6 #[s.arg T.period T.deadline] w fun e w' => e = .returned (.bool true) ∧ Below w.heap.size w w' := by
  have HK := Lib.hid K
  have HTW := Lib.hid (fun W (h : Below w.heap.size w W) => DTab.via hT h)
  have B0 := Lib.hid ((Bx1T.start h.t).few h hT f)
  have F1 := Lib.hid f
  have hnp := h.t.hp
  have HNP := Lib.hid hnp
  have HNE := Lib.hid h.t.he
  have HNF := Lib.hid h.t.hf
  have hl1 : s.np ≤ 20 := by have := f.np; omega
  have hl2 : s.ne ≤ 60 := by have := f.ne; have := h.t.he; omega
  have hl3 : s.nf ≤ 20 := by have := f.nf; have := h.t.hf; omega
  clear K h hT f hnp
  obtain ⟨P, np, pc, E, ne, ec, F, nf, fc, R, nr, rc⟩ := s
  simp only at HNP HNE HNF hl1 hl2 hl3
  obtain ⟨r, hr⟩ : ∃ r, r = chkT T := ⟨_, rfl⟩
  have CC := Lib.hid (fun W s (h : IsD W s T) => show Calls Tryd.prog 11 #[s.arg T.period T.deadline] W fun e w' => e = .returned (.int .i64 r) ∧ Below W.heap.size W w' by rw [hr]; exact HK.out.check W h)
  by_cases hM : MayT T
  · obtain rfl : r = 0 := hr.trans (chkT_zero.mpr hM)
    have HM := Lib.hid hM
    have HALL : Hid (sumF T np = ne + nf) := Lib.hid (by have := sumF_all hM; rw [HNP.out, HNE.out, HNF.out] at this; exact this)
    have HMON : Hid (∀ k, k ≤ np → sumF T k ≤ 80) := Lib.hid (fun k hk => by
      have := sumF_mono T k (np - k)
      rw [show k + (np - k) = np by omega, HALL.out] at this
      omega)
    clear hr hM
    go_enter Tryd.func6, Tryd.ntmps6
    go_wp2_with fail
    refine (awake_any HK.out _ (HTW.out _ B0.out.bel)).mono ?_
    rintro e w1 ⟨rfl, b1⟩
    have B1 := Lib.hid (B0.out.next b1)
    clear b1
    obtain ⟨c1, c2, c3, c4, c5, c6⟩ := B1.out.c
    go_wp2_with fail
    refine (few_d B1.out.d.t F1.out).mono ?_
    rintro e w2 ⟨rfl, b2⟩
    have B2 := Lib.hid (B1.out.next b2)
    clear b2 c1 c2 c3 c4 c5 c6
    obtain ⟨c1, c2, c3, c4, c5, c6⟩ := B2.out.c
    go_wp2_with fail
    refine (own_d B2.out.d).mono ?_
    rintro e w3 ⟨sa, rfl, hd, b3⟩
    have B3 := Lib.hid (B2.out.next b3)
    have D3 := Lib.hid hd
    clear b3 c1 c2 c3 c4 c5 c6 hd
    go_wp2_with fail
    refine (CC.out _ _ D3.out).mono ?_
    rintro e w4 ⟨rfl, b4⟩
    have B4 := Lib.hid (B3.out.next b4)
    clear b4 D3
    clear B0 B1 B2 B3
    go_wp2
    go_loopw [3, 4] (fun v i wr => ∃ k : Nat, k ≤ np ∧ i = .int .i64 k ∧ v = .int .i64 (sumF T k : Nat) ∧ Hid (Bx1D w ⟨P, np, pc, E, ne, ec, F, nf, fc, R, nr, rc⟩ T wr)) (fun _ i _ => np - (intOf i).toNat)
    case atStart => exact ⟨0, Nat.zero_le _, rfl, rfl, B4⟩
    case round =>
      obtain ⟨k, hk, rfl, rfl, BR⟩ := hrel
      clear B4
      obtain ⟨c1, c2, c3, c4, c5, c6⟩ := BR.out.c
      simp only at c1 c2 c3 c4 c5 c6
      by_cases hlt : k < np
      · have hsum := HMON.out (k + 1) (by omega)
        have hsum0 := HMON.out k hk
        have HST : Hid (sumF T (k + 1) = sumF T k + (feedsL T.edges T.futures (k : Int)).length) := Lib.hid rfl
        have HFV : Hid (feedsV T (k : Int) = feedsL T.edges T.futures (k : Int)) := Lib.hid (by unfold feedsV; rw [if_pos HM.out])
        obtain ⟨fl, hfl⟩ : ∃ n, n = (feedsL T.edges T.futures (k : Int)).length := ⟨_, rfl⟩
        rw [← hfl] at HST
        have hfl80 : fl ≤ 80 := by have := HST.out; omega
        have HFL := Lib.hid hfl
        obtain ⟨sk, hsk⟩ : ∃ n, n = sumF T k := ⟨_, rfl⟩
        rw [← hsk] at HST hsum0 ⊢
        have HSK := Lib.hid hsk
        clear hfl hsum hsk
        go_wp2_with fail
        refine (own_d BR.out.d).mono ?_
        rintro e w5 ⟨sa, rfl, hd, b5⟩
        have B5 := Lib.hid (BR.out.next b5)
        have D5 := Lib.hid hd
        clear b5 c1 c2 c3 c4 c5 c6 hd
        go_wp2_with fail
        refine (HK.out.feeds _ (k : Int) (by omega) (by omega) D5.out).mono ?_
        rintro e w6 ⟨A1, a1, rfl, i1, b6⟩
        have B6 := Lib.hid (B5.out.next b6)
        rw [HFV.out] at i1 ⊢
        rw [← HFL.out]
        have I1 := Lib.hid i1
        clear b6 i1 B5 D5 BR
        go_wp2
        go_loopw [6] (fun i wq => ∃ t : Nat, t ≤ fl ∧ i = .int .i64 t ∧ Hid (Bx1D w ⟨P, np, pc, E, ne, ec, F, nf, fc, R, nr, rc⟩ T wq) ∧ Hid (Ints wq wq.heap.size A1 (feedsL T.edges T.futures (k : Int)))) (fun i _ => fl - (intOf i).toNat)
        case atStart => exact ⟨0, Nat.zero_le _, rfl, B6, I1⟩
        case round =>
          obtain ⟨t, ht, rfl, BQ, IQ⟩ := hrel
          clear B6 I1
          by_cases hlt2 : t < fl
          · obtain ⟨bk, off, z, rfl, hbg, hz, hcz⟩ := IQ.out.at_ (k := t) (by rw [← HFL.out]; exact hlt2)
            obtain ⟨hz1, hz2⟩ := feed_part HM.out (List.mem_of_getElem? hz)
            rw [HNP.out] at hz1
            have C := Lib.hid (fun (x : Near wr.heap.size wr) => by
              have := dpart_any (P := P) (np := np) (pc := pc) (E := E) (ne := ne) (ec := ec) (F := F) (nf := nf) (fc := fc) (R := R) (nr := nr) (rc := rc) (p := T.period) (q := T.deadline) z x.W
              rwa [decide_eq_true hz1] at this)
            have g1 : (z == (k : Int)) = false := by simpa using hz2
            obtain ⟨c1, c2, c3, c4, c5, c6⟩ := BQ.out.c
            simp only at c1 c2 c3 c4 c5 c6
            have n1 := near_cell c1
            have n2 := near_cell c2
            have n3 := near_cell c3
            have n4 := near_cell c4
            have n5 := near_cell c5
            have n6 := near_cell c6
            have n7 := near_cell hcz
            clear hz hz1 hz2 hcz c1 c2 c3 c4 c5 c6
            go_wp2
            refine wp_region_near _ (by kernel_rfl) (by kernel_rfl) (Nat.le_refl _) ?_
            repeat (go_big_quiet_step (first
              | (go_at_call 21; exact near_of (C.out _) (Nat.le_refl _))))
            refine wpQuiet_nil ?_
            intro W hW
            have BW := Lib.hid (BQ.out.next hW)
            have IW := Lib.hid ((IQ.out.below hW).more hW.size)
            clear hW n1 n2 n3 n4 n5 n6 n7
            go_wp2
            go_roundw
            case rel => exact ⟨t + 1, by omega, by go_num, BW, IW⟩
            case measure => simp [intOf]; omega
          · have e : t = fl := by omega
            clear e
            go_wp2
            go_roundw
            case rel => exact ⟨k + 1, by omega, by go_num, by rw [HST.out]; go_num, BQ⟩
            case measure => simp [intOf]; omega
      · have e : k = np := by omega
        subst e
        rw [HALL.out]
        have hbq : (((ne + nf : Nat) : Int) == (ne : Int) + (nf : Int)) = true := by simp
        go_wp2
        go_ret
        exact ⟨by first | rfl | (refine congrArg (fun b => Ending.returned (Value.bool b)) (?_ : _ = true); simp), BR.out.bel⟩
  · have hc : (r != 0) = true := by
      rw [bne_iff_ne, hr]
      exact fun k => hM (chkT_zero.mp k)
    clear hM hr
    go_enter Tryd.func6, Tryd.ntmps6
    go_wp2_with fail
    refine (awake_any HK.out _ (HTW.out _ B0.out.bel)).mono ?_
    rintro e w1 ⟨rfl, b1⟩
    have B1 := Lib.hid (B0.out.next b1)
    clear b1
    obtain ⟨c1, c2, c3, c4, c5, c6⟩ := B1.out.c
    go_wp2_with fail
    refine (few_d B1.out.d.t F1.out).mono ?_
    rintro e w2 ⟨rfl, b2⟩
    have B2 := Lib.hid (B1.out.next b2)
    clear b2 c1 c2 c3 c4 c5 c6
    obtain ⟨c1, c2, c3, c4, c5, c6⟩ := B2.out.c
    go_wp2_with fail
    refine (own_d B2.out.d).mono ?_
    rintro e w3 ⟨sa, rfl, hd, b3⟩
    have B3 := Lib.hid (B2.out.next b3)
    have D3 := Lib.hid hd
    clear b3 c1 c2 c3 c4 c5 c6 hd
    go_wp2_with fail
    refine (CC.out _ _ D3.out).mono ?_
    rintro e w4 ⟨rfl, b4⟩
    have B4 := Lib.hid (B3.out.next b4)
    clear b4 D3
    go_wp2_with fail
    refine (awake_any HK.out _ (HTW.out _ B4.out.bel)).mono ?_
    rintro e w9 ⟨rfl, b9⟩
    have B9 := Lib.hid (B4.out.next b9)
    clear b9
    go_wp2
    go_ret
    exact ⟨rfl, B9.out.bel⟩
set_option maxRecDepth 100000 in
set_option maxHeartbeats 4000000 in
theorem counts_many (K : DescOk) (w : World) (s : Sh) (T : Task) (hT : DTab w) (h : InD w s T) (f : ¬ FewD T) :
    Calls Tryd.prog 6 #[s.arg T.period T.deadline] w fun e w' => e = .returned (.bool true) ∧ Below w.heap.size w w' := by
  have HK := Lib.hid K
  have HTW := Lib.hid (fun W (h : Below w.heap.size w W) => DTab.via hT h)
  have B0 := Lib.hid (Bx1T.start h.t)
  have F1 := Lib.hid f
  clear K h hT f
  go_enter Tryd.func6, Tryd.ntmps6
  go_wp2_with fail
  refine (awake_any HK.out _ (HTW.out _ B0.out.bel)).mono ?_
  rintro e w1 ⟨rfl, b1⟩
  have B1 := Lib.hid (B0.out.next b1)
  clear b1
  obtain ⟨c1, c2, c3, c4, c5, c6⟩ := B1.out.c
  go_wp2_with fail
  refine (few_n B1.out.t F1.out).mono ?_
  rintro e w3 ⟨rfl, b3⟩
  have B3 := Lib.hid (B1.out.next b3)
  clear b3 c1 c2 c3 c4 c5 c6 B0 B1
  go_wp2_with fail
  refine (awake_any HK.out _ (HTW.out _ B3.out.bel)).mono ?_
  rintro e w4 ⟨rfl, b4⟩
  have B4 := Lib.hid (B3.out.next b4)
  clear b4
  go_wp2
  go_ret
  exact ⟨rfl, B4.out.bel⟩
theorem walk_DescCounts (K : DescOk) (w : World) (hT : DTab w) {s : Sh} {T : Task} (h : InD w s T) :
    Calls Tryd.prog 6 #[s.arg T.period T.deadline] w fun e w' => e = .returned (.bool true) ∧ Below w.heap.size w w' := by
  by_cases hf : FewD T
  · exact counts_few K w s T hT h hf
  · exact counts_many K w s T hT h hf
end Go.Proofs.YtpckmhmabmmllaaDoor
