/- desc.Feeds, in the seat YtkmajhbfmdoamaaGreatDoor: its contract.
   eval.Op in the seat YtkmajhbfmdoamaaGreatDoor: its contract.
   No statement is proved here. -/
import Derived.Test.YtkmajhbfmdoamaaGreatDoorZM11
import Derived.Test.YtkmajhbfmdoamaaGreatDoorZEvalComeAll
import Derived.Test.YtkmajhbfmdoamaaGreatDoorZM4
set_option linter.unusedSimpArgs false
set_option linter.unusedVariables false
namespace Go.Proofs.YtkmajhbfmdoamaaGreatDoor
open Go.RowKit

/-- 'append(l, n)', and where the new list lies. -/
theorem wpList_push2 {ops : Array Oper} {rest : List Oper} {o : Oper} {a : Act} {Q : Exit → Act → World → Prop} (hgd : o.guard = none) (s x : Operand)
    (ho : o.op = .call { callee := .builtin .append, args := #[s, x], argTypes := #[28, 28] })
    (w1 : World) (base : Nat) (v : Value) (zs : List Int) (n : Int) (len : Nat) (hlen : zs.length = len) (hl : len ≤ 1000) (hO : OwnI w1 base v zs) (hB : base ≤ w1.heap.size)
    (hs : a.eval s = v) (hx : a.eval x = .slice (some ⟨w1.heap.size, 0, none⟩) 1 1)
    (h : ∀ A' c' w', OwnI w' base (.slice A' (len + 1) c') (zs ++ [n]) → Below base w1 w' → (w1.alloc (.cells #[.int .i64 n] 3)).grownBy w' v.ownBlock → (∀ b, b < w1.heap.size → v.ownBlock ≠ some b → Value.ownBlock (.slice A' (len + 1) c') ≠ some b) → wpList Tryz.prog ops Q rest (a.put o.dst (.slice A' (len + 1) c')) w') : wpList Tryz.prog ops Q (o :: rest) a (w1.alloc (.cells #[.int .i64 n] 3)) := by
  obtain ⟨i0, hi0, hz0, hz1, hz2⟩ : ∃ i, Tryz.prog.info? 3 = some i ∧ i.zero = some (.int .i64 0) ∧ i.size = 1 ∧ i.bytes = 8 := by
    have h := int_cell_info
    cases hi : Tryz.prog.info? 3 with
    | none => rw [hi] at h; cases h
    | some i =>
      rw [hi] at h
      simp at h
      exact ⟨i, rfl, h.1, h.2.1, h.2.2⟩
  subst hlen
  have hbw : Below base w1 (w1.alloc (.cells #[.int .i64 n] 3)) := (Below.refl base w1).alloc hB _
  have hsz : (w1.alloc (.cells #[.int .i64 n] 3)).heap.size = w1.heap.size + 1 := by simp
  refine wpList_append_lies _ hgd s x 28 ho base 3 i0 (.int .i64 0) 1 8 Tryz.underlying28 hi0 hz0 hz1 hz2 rfl (by omega) v zs.length (zs.map (Value.int .i64)) hs (hO.alloc _) ⟨w1.heap.size, 0, none⟩ 1 1 [.int .i64 n] hx rfl ?_ ?_
    (by omega) (by unfold maxLen; omega) (by omega) (by omega) _ rfl ?_
  · intro j u hu
    match j with
    | 0 =>
      obtain rfl : Value.int .i64 n = u := by simpa using hu
      rw [addr_add, World.cell?_alloc_at _ _ _ _ rfl]
      rfl
    | j + 1 => simp at hu
  · intro u hu
    obtain rfl : u = .int .i64 n := by simpa using hu
    rfl
  · intro g cap w' hown hg hat _
    have hO' : OwnI w' base (.slice (some ⟨g, 0, none⟩) (zs.length + 1) cap) (zs ++ [n]) := by
      unfold OwnI
      rw [List.length_append, List.length_singleton, List.map_append]
      exact hown
    exact h (some ⟨g, 0, none⟩) cap w' hO' (hbw.grown hg (by omega) (fun k hk => (hO.lt k hk).1)) hg (fun b hb hne e => by
      have e2 : g = b := by simpa [Value.ownBlock] using e
      rcases hat with h1 | h1
      · exact hne (h1.trans (by rw [e2]))
      · omega)
set_option maxRecDepth 100000 in
set_option maxHeartbeats 8000000 in
theorem feeds_any5 (s : Sh) (T : Task) (x : Int) (w : World) (hD : IsD w s T) :
    Calls Tryz.prog 40 #[s.arg T.period T.deadline, .int .i64 x] w (GotInts (feedsV T x) w) := by
  obtain ⟨P, np, pc, E, ne, ec, F, nf, fc, R, nr, rc⟩ := s
  obtain ⟨p, q, ps, es, fs, bs⟩ := T
  have B0 := Lib.hid (BxI.start hD p q)
  have C := Lib.hid (fun (W' : World) (h : IsD W' ⟨P, np, pc, E, ne, ec, F, nf, fc, R, nr, rc⟩ ⟨p, q, ps, es, fs, bs⟩) => check_any5 ⟨P, np, pc, E, ne, ec, F, nf, fc, R, nr, rc⟩ ⟨p, q, ps, es, fs, bs⟩ W' h)
  have CT := Lib.hid (fun (W' : World) (h : IsD W' ⟨P, np, pc, E, ne, ec, F, nf, fc, R, nr, rc⟩ ⟨p, q, ps, es, fs, bs⟩) => touches_any5 ⟨P, np, pc, E, ne, ec, F, nf, fc, R, nr, rc⟩ ⟨p, q, ps, es, fs, bs⟩ x W' h)
  have HD := Lib.hid hD
  have hn := hD.t.he
  have hl0 := hD.few.ne
  have hm := hD.t.hf
  have hl := hD.few.nf
  simp only at hm hl hn hl0
  rw [hm] at hl
  rw [hn] at hl0
  have HM := Lib.hid hm
  have HN := Lib.hid hn
  simp only [Sh.arg] at C CT ⊢
  obtain ⟨w0, hw0⟩ : ∃ w0, w0 = w.alloc (.cells #[.int .i64 p, .int .i64 q, .slice P np pc, .slice E ne ec, .slice F nf fc, .slice R nr rc] 27) := ⟨_, rfl⟩
  have HW0 := Lib.hid hw0
  rw [← hw0] at B0
  clear hD hm hn
  by_cases hM : MayT ⟨p, q, ps, es, fs, bs⟩
  · have HV := Lib.hid (show feedsV ⟨p, q, ps, es, fs, bs⟩ x = feedsL es fs x by unfold feedsV; rw [if_pos hM])
    have HTV := Lib.hid (show touchesV ⟨p, q, ps, es, fs, bs⟩ x = nums (touL fs x) by unfold touchesV; rw [if_pos hM])
    have C1 := Lib.hid (fun W' h => by have := C.out W' h; rwa [chkT_zero.mpr hM] at this)
    obtain ⟨l, hl3⟩ : ∃ l, l = feedsV ⟨p, q, ps, es, fs, bs⟩ x := ⟨_, rfl⟩
    rw [← hl3] at HV ⊢
    have HTL := Lib.hid (fun j (hj : j ∈ touL fs x) => (mem_touK.mp hj).1)
    have HTN := Lib.hid (touK_len fs x 99)
    obtain ⟨tl, htl⟩ : ∃ tl, tl = touL fs x := ⟨_, rfl⟩
    have HTT := Lib.hid htl
    obtain ⟨tv, htv⟩ : ∃ tv, tv = touchesV ⟨p, q, ps, es, fs, bs⟩ x := ⟨_, rfl⟩
    rw [← htv] at CT HTV
    rw [← htl] at HTL HTV
    have HTN2 : Hid (tl.length ≤ nf) := Lib.hid (by rw [htl, ← HM.out]; exact HTN.out)
    rw [hw0] at B0
    clear hM C hl3 hw0 htl htv
    have HLE := Lib.hid (feE_len es x)
    go_enter Tryz.func40, Tryz.ntmps40
    go_wp2_with fail
    refine (C1.out _ B0.out.d).mono ?_
    rintro e w1 ⟨rfl, b⟩
    have HB1 : Hid (Below (w.heap.size + 1) w0 w1) := Lib.hid (by rw [HW0.out]; exact b.mono (by simp))
    have hbox1 : w1.cell? ⟨w.heap.size, 3, none⟩ = some (.slice E ne ec) := (B0.out.next b).b.c3
    clear b B0
    go_wp2
    go_loopw [5, 16] (fun v i wr => ∃ (k len : Nat) (A' : Option Addr) (c' : Nat), k ≤ ne ∧ i = .int .i64 k ∧ v = .slice A' len c' ∧ Hid ((feE (es.take k) x).length = len) ∧ Hid (OwnI wr (w.heap.size + 1) (.slice A' len c') (feE (es.take k) x)) ∧ Hid (Below (w.heap.size + 1) w0 wr)) (fun _ i _ => ne - (intOf i).toNat)
    case atStart => exact ⟨0, 0, none, 0, Nat.zero_le _, rfl, rfl, Lib.hid rfl, Lib.hid (ownI_nil _ _), HB1⟩
    case round =>
      obtain ⟨k, len, A', c', hk, rfl, rfl, HL, HO, HB⟩ := hrel
      clear hbox1 HB1
      have hsz := wr_ge HW0.out HB.out
      have hlen : len ≤ 400 := by
        have h1 := feE_len (es.take k) x
        rw [HL.out, List.length_take] at h1
        omega
      by_cases hlt : k < ne
      · obtain ⟨bk, o, ⟨a, b⟩, hEe, hbg, hek, d1, d2⟩ := (HD.out.t.edges.below (wr_bel HW0.out HB.out)).at_ (k := k) (by rw [HN.out]; exact hlt)
        simp only at d1 d2 hEe
        subst hEe
        have HS := Lib.hid (feE_step (x := x) hek)
        have HB5 : Hid (∀ o5, Below (w.heap.size + 1) w0 (wr.alloc o5)) := Lib.hid (fun o5 => HB.out.trans ((below_alloc o5).mono hsz))
        have HO5 := Lib.hid (fun o5 => HO.out.alloc o5)
        clear hek
        by_cases h1 : b = x
        · have HS2 := Lib.hid (show feE (es.take (k + 1)) x = feE (es.take k) x ++ [a] by rw [HS.out, if_pos h1])
          have g1 : (b == x) = true := by simpa using h1
          clear h1
          go_wp2_with (at_builtin; refine wpList_push rfl _ _ rfl (wr.alloc (.cells #[.int .i64 a, .int .i64 b] 48)) (w.heap.size + 1) _ (feE (es.take k) x) a len HL.out (by omega) (HO5.out _) (by simp; omega) rfl (by simp; rfl) ?_; intro A4 c4' w4 HO4 HB4; (have HO4' := Lib.hid HO4); (have HB4' := Lib.hid HB4); clear HO4 HB4)
          go_roundw
          case rel => exact ⟨k + 1, len + 1, A4, c4', by omega, by go_num, rfl, Lib.hid (by rw [HS2.out, List.length_append, HL.out]; rfl), Lib.hid (by rw [HS2.out]; exact HO4'.out), Lib.hid ((HB5.out _).trans HB4'.out)⟩
          case measure => simp [intOf]; omega
        · have HS2 := Lib.hid (show feE (es.take (k + 1)) x = feE (es.take k) x by rw [HS.out, if_neg h1])
          have g1 : (b == x) = false := by simpa using h1
          clear h1
          go_wp2
          go_roundw
          case rel => exact ⟨k + 1, len, A', c', by omega, by go_num, rfl, Lib.hid (by rw [HS2.out]; exact HL.out), Lib.hid (by rw [HS2.out]; exact HO5.out _), Lib.hid (HB5.out _)⟩
          case measure => simp [intOf]; omega
      · have e : k = ne := by omega
        have HE1 : Hid (es.take k = es) := Lib.hid (List.take_of_length_le (by rw [HN.out, e]; exact Nat.le_refl _))
        rw [HE1.out] at HL HO
        clear e
        obtain ⟨tn, htn⟩ : ∃ tn, tn = tl.length := ⟨_, rfl⟩
        have HTLN := Lib.hid htn
        have htn2 : tn ≤ 400 := by have := HTN2.out; omega
        have hlen2 : len ≤ 400 := by have := HLE.out; rw [HL.out, HN.out] at this; omega
        have HDr := Lib.hid (HD.out.below (wr_bel HW0.out HB.out))
        have hc : ∀ i v, w0.cell? ⟨w.heap.size, i, none⟩ = some v → wr.cell? ⟨w.heap.size, i, none⟩ = some v := fun i v h => (HB.out.cell (Nat.lt_succ_self _)).trans h
        rw [HW0.out] at hc
        have c0 := hc 0 (.int .i64 p) (by rw [World.cell?_alloc_at _ _ _ _ rfl]; rfl)
        have c1 := hc 1 (.int .i64 q) (by rw [World.cell?_alloc_at _ _ _ _ rfl]; rfl)
        have c2 := hc 2 (.slice P np pc) (by rw [World.cell?_alloc_at _ _ _ _ rfl]; rfl)
        have c3 := hc 3 (.slice E ne ec) (by rw [World.cell?_alloc_at _ _ _ _ rfl]; rfl)
        have c4 := hc 4 (.slice F nf fc) (by rw [World.cell?_alloc_at _ _ _ _ rfl]; rfl)
        have c5 := hc 5 (.slice R nr rc) (by rw [World.cell?_alloc_at _ _ _ _ rfl]; rfl)
        clear htn hc
        have hov : Value.ownBlock (.slice A' len c') = none ∨ ∃ g, Value.ownBlock (.slice A' len c') = some g ∧ g < wr.heap.size := by
          cases hv : Value.ownBlock (.slice A' len c') with
          | none => exact .inl rfl
          | some g => exact .inr ⟨g, rfl, (HO.out.lt g hv).2⟩
        have HOV := Lib.hid hov
        clear hov
        have HNL : Hid (tv.length = tn) := Lib.hid (by rw [HTV.out, nums_length]; exact HTLN.out.symm)
        go_wp2_with (go_at_call 54; refine (CT.out _ HDr.out).mono ?_; rintro e w2 ⟨A2, c2', rfl, hI, b⟩; have HI := Lib.hid hI; have HB2 := Lib.hid b; rw [HNL.out]; clear hI b)
        have HBU := Lib.hid (HB.out.trans (HB2.out.mono hsz))
        have HO2 := Lib.hid (HO.out.below HB2.out)
        have HI2 : Hid (Ints w2 w2.heap.size A2 (nums tl)) := Lib.hid (by
          have h := HI.out
          rw [HTV.out] at h
          obtain ⟨A5, c5, e5, h5⟩ := h.slice
          injection e5 with e6 _ _
          subst e6
          exact h5)
        have HAP : Hid (∀ b off, A2 = some ⟨b, off, none⟩ → Value.ownBlock (.slice A' len c') ≠ some b) := Lib.hid (fun b off e h => by
          rcases HOV.out with h1 | ⟨g, h1, h2⟩
          · rw [h1] at h; cases h
          · rw [h1] at h
            injection h with h
            subst h e
            rcases HI.out.2 with ⟨h3, _⟩ | ⟨g', cap', cur', h3, h4, _⟩
            · injection h3 with h3; cases h3
            · injection h3 with h3
              injection h3 with h3
              injection h3 with h3
              omega)
        clear c0 c1 c2 c3 c4 c5
        go_loopw [5, 34] (fun v i wr => ∃ (t len2 : Nat) (A' : Option Addr) (c' : Nat), t ≤ tn ∧ i = .int .i64 t ∧ v = .slice A' len2 c' ∧ Hid (len2 = len + t) ∧ Hid (OwnI wr (w.heap.size + 1) (.slice A' len2 c') (feE es x ++ feF fs (tl.take t))) ∧ Hid (Below (w.heap.size + 1) w0 wr) ∧ Hid (Ints wr wr.heap.size A2 (nums tl)) ∧ Hid (∀ b off, A2 = some ⟨b, off, none⟩ → Value.ownBlock (.slice A' len2 c') ≠ some b)) (fun _ i _ => tn - (intOf i).toNat)
        case atStart => exact ⟨0, len, A', c', Nat.zero_le _, rfl, rfl, Lib.hid rfl, Lib.hid (by simp [feF]; exact HO2.out), HBU, HI2, HAP⟩
        case round =>
          obtain ⟨t, len2, A3, c3, ht, rfl, rfl, HL2, HO3, HB3, HI3, HA3⟩ := hrel
          clear HBU HO2 HI2 HAP HI
          have hsz3 := wr_ge HW0.out HB3.out
          by_cases hlt2 : t < tn
          · obtain ⟨bk, o, z, rfl, hbg, hzt, d0⟩ := HI3.out.at_ (k := t) (by rw [nums_length]; rw [← HTLN.out]; exact hlt2)
            obtain ⟨j, rfl, hj⟩ := nums_at hzt
            have hjn : j < nf := by rw [← HM.out]; exact HTL.out j (List.mem_of_getElem? hj)
            obtain ⟨bf, of, m1, m2, m3, hF, hbf, hfj, d1, d2, d3⟩ := (HD.out.t.futures.below (wr_bel HW0.out HB3.out)).at_ (k := j) (by rw [HM.out]; exact hjn)
            simp only at hF
            subst hF
            have hc4 : wr.cell? ⟨w.heap.size, 4, none⟩ = some (.slice (some ⟨bf, of, none⟩) nf fc) := (HB3.out.cell (Nat.lt_succ_self _)).trans (by rw [HW0.out, World.cell?_alloc_at _ _ _ _ rfl]; rfl)
            have hl5 : len2 ≤ 800 := by have := HL2.out; omega
            have HST := Lib.hid (show feF fs (tl.take (t + 1)) = feF fs (tl.take t) ++ [m1] by
              rw [feF_step hj]
              unfold futAt
              rw [List.getD_eq_getElem?_getD, hfj]
              rfl)
            have HLL : Hid ((feE es x ++ feF fs (tl.take t)).length = len2) := Lib.hid (by
              rw [List.length_append, HL.out]
              unfold feF
              rw [List.length_map, List.length_take, ← HTLN.out, HL2.out]
              omega)
            clear hzt hj hfj d2 d3
            go_wp2_with (at_builtin; refine wpList_push2 rfl _ _ rfl wr (w.heap.size + 1) _ (feE es x ++ feF fs (tl.take t)) m1 len2 HLL.out (by omega) HO3.out hsz3 rfl rfl ?_; intro A4 c4' w4 HO4 HB4 HG4 HA4; (have HO4' := Lib.hid HO4); (have HB4' := Lib.hid HB4); (have HG4' := Lib.hid HG4); (have HA4' := Lib.hid HA4); clear HO4 HB4 HG4 HA4)
            have HW := Lib.hid (below_alloc (w := wr) (.cells #[.int .i64 m1] 3))
            have HI4 : Hid (Ints w4 w4.heap.size (some ⟨bk, o, none⟩) (nums tl)) := Lib.hid (ints_far ((HI3.out.below HW.out).more HW.out.size) HG4'.out HG4'.out.size (fun b off e => HA3.out b off e))
            have HBK := Lib.hid hbg
            have HA5 : Hid (∀ b off, (some ⟨bk, o, none⟩ : Option Addr) = some ⟨b, off, none⟩ → Value.ownBlock (.slice A4 (len2 + 1) c4') ≠ some b) := Lib.hid (by
              intro b off e
              have h1 := HA3.out b off e
              injection e with e
              injection e with e1 e2
              subst e1
              exact HA4'.out bk HBK.out h1)
            go_roundw
            case rel => exact ⟨t + 1, len2 + 1, A4, c4', by omega, by go_num, rfl, Lib.hid (by rw [HL2.out]; omega), Lib.hid (by have h := HO4'.out; rw [HST.out]; first | exact h | (rw [← List.append_assoc]; exact h)), Lib.hid (HB3.out.trans HB4'.out), HI4, HA5⟩
            case measure => simp [intOf]; omega
          · have e : t = tn := by omega
            have HLL : Hid (l.length = len2) := Lib.hid (by
              rw [HV.out]
              unfold feedsL
              rw [List.length_append, HL.out]
              unfold feF
              rw [List.length_map, ← HTT.out, ← HTLN.out, HL2.out, e])
            have HFL : Hid (feE es x ++ feF fs (tl.take t) = l) := Lib.hid (by
              rw [HV.out]
              unfold feedsL
              rw [← HTT.out, List.take_of_length_le (by rw [← HTLN.out, e]; exact Nat.le_refl _)])
            clear e
            go_wp2
            go_ret
            have hq := HO3.out.ints
            rw [HFL.out] at hq
            exact ⟨A3, c3, by rw [HLL.out]; rfl, hq, wr_bel HW0.out HB3.out⟩
  · have HV : feedsV ⟨p, q, ps, es, fs, bs⟩ x = [] := by unfold feedsV; rw [if_neg hM]
    rw [HV]
    have hc : (chkT ⟨p, q, ps, es, fs, bs⟩ != 0) = true := by
      rw [bne_iff_ne]
      exact fun k => hM (chkT_zero.mp k)
    obtain ⟨r, hr⟩ : ∃ r, r = chkT ⟨p, q, ps, es, fs, bs⟩ := ⟨_, rfl⟩
    rw [← hr] at C hc
    rw [hw0] at B0
    clear hM hr HV hw0 CT
    go_enter Tryz.func40, Tryz.ntmps40
    go_wp2_with fail
    refine (C.out _ B0.out.d).mono ?_
    rintro e w1 ⟨rfl, b⟩
    have B1 := Lib.hid (B0.out.next b)
    clear b
    go_wp2
    go_ret
    exact ⟨none, 0, rfl, Ints.nil_ _ _ _, B1.out.b.bel⟩
end Go.Proofs.YtkmajhbfmdoamaaGreatDoor
set_option linter.unusedVariables false
namespace Go.Proofs.YtkmajhbfmdoamaaGreatDoor
open Go.RowKit

def OpF (hb : Nat) (op arg wk : Int) (inp : List Int) (A : Option Addr) (n c : Nat) (F : Option Addr) (m d : Nat) (z : Int) : Nat → Value → World → Prop
  | 0, v, _ => v = .agg #[.int .i64 op, .int .i64 arg, .int .i64 wk]
  | 1, v, _ => v = .slice A n c
  | 2, v, w => ∃ b k D, v = .map (some b) ∧ OwnV w b k D ∧ TellsI D inp
  | 3, v, _ => v = .slice F m d
  | 4, v, _ => v = .int .i64 z
  | 5, v, _ => v = .int .i64 z
  | _, _, _ => True
theorem opF_below {hb : Nat} {op arg wk : Int} {inp : List Int} {A : Option Addr} {n c : Nat} {F : Option Addr} {m d : Nat} {z : Int} : ∀ q v w w', OpF hb op arg wk inp A n c F m d z q v w → Below w.heap.size w w' → OpF hb op arg wk inp A n c F m d z q v w'
  | 0, _, _, _, h, _ | 1, _, _, _, h, _ | 3, _, _, _, h, _ | 4, _, _, _, h, _ | 5, _, _, _, h, _ => h
  | 2, _, _, _, ⟨b, k, D, h1, h2, h3⟩, hb => ⟨b, k, D, h1, h2.below hb, h3⟩
  | _ + 6, _, _, _, _, _ => trivial
/-- The box of Op, and its slices. -/
structure BxO (w : World) (op arg wk : Int) (A : Option Addr) (inp : List Int) (F : Option Addr) (vals : List Int) (w' : World) : Prop where
  bel : Below w.heap.size w w'
  r : w'.heap[w.heap.size]? = some (.cells #[.int .i64 op, .int .i64 arg, .int .i64 wk] 46 (0, 0))
  i : Ints w' w'.heap.size A inp
  v : Ints w' w'.heap.size F vals
theorem BxO.next {w w1 w2 : World} {op arg wk : Int} {A : Option Addr} {inp : List Int} {F : Option Addr} {vals : List Int} (h : BxO w op arg wk A inp F vals w1) (b : Below w1.heap.size w1 w2) : BxO w op arg wk A inp F vals w2 :=
  ⟨h.bel.trans (b.mono h.bel.size), (b.block _ (Array.getElem?_eq_some_iff.1 h.r).1).trans h.r, (h.i.below b).more b.size, (h.v.below b).more b.size⟩
set_option maxRecDepth 100000 in
set_option maxHeartbeats 4000000 in
theorem op_any (op arg wk : Int) (A : Option Addr) (n c : Nat) (inp : List Int) (F : Option Addr) (m d : Nat) (vals : List Int) (w : World) (h1 : -9223372036854775808 ≤ arg) (h2 : arg ≤ 9223372036854775807) (hn : inp.length = n) (ln : n ≤ 1000) (hm : vals.length = m) (lm : m ≤ 1000) (hI : Ints w w.heap.size A inp) (hV : Ints w w.heap.size F vals) :
    Calls Tryz.prog 19 #[.agg #[.int .i64 op, .int .i64 arg, .int .i64 wk], .slice A n c, .slice F m d] w fun e w' => e = .returned (.int .i64 (comeV op arg inp vals)) ∧ Below w.heap.size w w' := by
  obtain ⟨w0, hw0⟩ : ∃ w0, w0 = w.alloc (.cells #[.int .i64 op, .int .i64 arg, .int .i64 wk] 46) := ⟨_, rfl⟩
  have hb0 : Below w.heap.size w w0 := by rw [hw0]; exact below_alloc _
  have HB0 : Hid (BxO w op arg wk A inp F vals w0) := Lib.hid ⟨hb0, by rw [hw0]; exact heap_alloc_new w _, (hI.below hb0).more hb0.size, (hV.below hb0).more hb0.size⟩
  have HN := Lib.hid hn
  have HM := Lib.hid hm
  obtain ⟨z, hz⟩ : ∃ z, z = comeV op arg inp vals := ⟨_, rfl⟩
  rw [← hz]
  have HZ := Lib.hid hz
  have HW := Lib.hid hw0
  clear hb0 hw0 hn hm hI hV hz
  go_enter Tryz.func19, Tryz.ntmps19
  go_wp2_with fail
  rw [← HW.out]
  clear HW
  refine wp_region_facts' [7, 8, 9, 10, 11, 6] [] [] (by kernel_rfl) (by kernel_rfl) (by kernel_rfl) (by intro d hd; simp at hd ⊢; omega) (BxO w op arg wk A inp F vals) (OpF w.heap.size op arg wk inp A n c F m d z)
    (fun x y h hb => h.next hb) opF_below (HB0.out.next (Below.refl _ _).drew) (fun p hp => by simp at hp) (fun kq hkq => by simp at hkq) ?hstep ?hend
  case hstep =>
    intro kq o ho hw a y hI hA hd K hK
    obtain ⟨ρ, hρ⟩ : ∃ ρ, a.eval = ρ := ⟨_, rfl⟩
    rw [hρ] at hA hd
    match kq, ho with
    | 0, ho =>
      have hoo := Option.some.inj ho
      subst hoo
      exact fx_val hK hρ _ (by have h := hA.tmp 3 (by decide); have c0 := cell_of_row y _ 0 _ _ _ hI.r; have c1 := cell_of_row y _ 1 _ _ _ hI.r; have c2 := cell_of_row y _ 2 _ _ _ hI.r; simp at c0 c1 c2; simp [execOp, h, c0, c1, c2, go_sem]) rfl
    | 1, ho =>
      have hoo := Option.some.inj ho
      subst hoo
      exact fx_val hK hρ (.slice A n c) (by have h := hA.tmp 1 (by decide); simp [execOp, h, go_sem]) rfl
    | 2, ho =>
      have hoo := Option.some.inj ho
      subst hoo
      have f1 : ρ (.tmp 8) = .slice A n c := hd ⟨1, .data⟩ (by simp) (by rfl)
      exact fx_call hK hρ 25 _ _ #[.slice A n c] rfl (by simp only [List.map_toArray, List.map_cons, List.map_nil, f1]) (eg_of Tryz.func25 (by kernel_rfl) rfl) ((places_any A n c inp y HN.out ln hI.i).mono fun e w' ⟨b, k, D, he, _, h3, h4, hb⟩ => ⟨_, he, ⟨b, k, D, rfl, h3, h4⟩, hb⟩)
    | 3, ho =>
      have hoo := Option.some.inj ho
      subst hoo
      exact fx_val hK hρ (.slice F m d) (by have h := hA.tmp 2 (by decide); simp [execOp, h, go_sem]) rfl
    | 4, ho =>
      have hoo := Option.some.inj ho
      subst hoo
      have f0 : ρ (.tmp 7) = .agg #[.int .i64 op, .int .i64 arg, .int .i64 wk] := hd ⟨0, .data⟩ (by simp) (by rfl)
      obtain ⟨b, k, D, f2', hM, hT⟩ := hd ⟨2, .data⟩ (by simp) (by rfl)
      have f2 : ρ (.tmp 9) = .map (some b) := f2'
      have f3 : ρ (.tmp 10) = .slice F m d := hd ⟨3, .data⟩ (by simp) (by rfl)
      exact fx_call hK hρ 37 _ _ #[.agg #[.int .i64 op, .int .i64 arg, .int .i64 wk], .map (some b), .slice F m d] rfl (by simp only [List.map_toArray, List.map_cons, List.map_nil, f0, f2, f3]) (eg_of Tryz.func37 (by kernel_rfl) rfl) ((come_any op arg wk inp b k D F m d vals y h1 h2 hM hT HM.out lm hI.v).mono fun e w' ⟨he, hb⟩ => ⟨_, he, by show Value.int .i64 _ = .int .i64 z; rw [HZ.out], hb⟩)
    | 5, ho =>
      have hoo := Option.some.inj ho
      subst hoo
      have f4 : ρ (.tmp 11) = .int .i64 z := hd ⟨4, .data⟩ (by simp) (by rfl)
      exact fx_val hK hρ (.int .i64 z) (by simp [execOp, f4, go_sem]) rfl
    | kq + 6, ho => simp at ho
  case hend =>
    intro vals2 xw hI hF
    have fz : vals2 6 = .int .i64 z := hF 5 (by decide)
    simp only [fillA, fillL, List.contains_cons, List.contains_nil, Nat.reduceBEq, Bool.or_false, Bool.or_true, cond_true, cond_false, Nat.zero_add, Nat.reduceAdd]
    rw [fz]
    have HJ := Lib.hid hI
    clear hF hI fz
    go_wp2
    go_ret
    exact ⟨rfl, HJ.out.bel⟩
end Go.Proofs.YtkmajhbfmdoamaaGreatDoor
