/- The walk of CodecSizes in the seat YtlimcimioeepaaaGreatDoor: at any input it answers true. No statement is proved here. -/
import Derived.Test.YtlimcimioeepaaaGreatDoorZPutsWalk
set_option linter.unusedVariables false
namespace Go.Proofs.YtlimcimioeepaaaGreatDoor
open Go.RowKit

def barsK (l : List (List Int × List Int)) (k : Nat) : Nat := ((l.take k).map fun b => 2 + b.1.length + b.2.length).sum
theorem barsK_snoc {l : List (List Int × List Int)} {k : Nat} {x : List Int × List Int} (h : l[k]? = some x) : barsK l (k + 1) = barsK l k + (2 + x.1.length + x.2.length) := by
  unfold barsK
  rw [List.take_add_one, h]
  simp
theorem barsK_le {l : List (List Int × List Int)} {m : Nat} (h : barsFew l m) : ∀ k, k ≤ m → barsK l k ≤ 42 * k := by
  intro k
  induction k with
  | zero => intro _; unfold barsK; simp
  | succ k ih =>
    intro hk
    have h1 := ih (by omega)
    cases e : l[k]? with
    | none =>
      have : barsK l (k + 1) = barsK l k := by
        have hl : l.length ≤ k := by simpa using e
        unfold barsK
        rw [List.take_of_length_le (by omega), List.take_of_length_le hl]
      omega
    | some x =>
      have h2 := h k (by omega) x e
      rw [barsK_snoc e]
      omega
theorem barsK_all {T : Task} {n : Nat} (h : T.bars.length = n) : barsK T.bars n = barsN T := by
  unfold barsK barsN
  rw [List.take_of_length_le (by omega)]
theorem encL_size {T : Task} (h : MayT T) : (txt (encL T)).size = 21 + 7 * T.parts.length + 2 * T.edges.length + 4 * T.futures.length + barsN T := by
  rw [encL_yes h, txt_size, sealL_length, bodyB_length]
  omega
set_option maxRecDepth 100000 in
set_option maxHeartbeats 4000000 in
theorem sizes_many (w : World) (s : Sh) (T : Task) (hT : CTab w) (h : InD w s T) (f : ¬ FewD T) :
    Calls Tryz.prog 9 #[s.arg T.period T.deadline] w fun e w' => e = .returned (.bool true) ∧ Below w.heap.size w w' := by
  have B0 := Lib.hid (BxM.start h hT)
  have F1 := Lib.hid f
  clear h hT f
  go_enter Tryz.func9, Tryz.ntmps9
  go_wp2_with fail
  refine (awake_any _ B0.out.tab).mono ?_
  rintro e w1 ⟨rfl, b1⟩
  have B1 := Lib.hid (B0.out.next b1)
  clear b1
  obtain ⟨c1, c2, c3, c4, c5, c6⟩ := B1.out.b.c
  go_wp2_with fail
  refine (few_n B1.out.b.t F1.out).mono ?_
  rintro e w3 ⟨rfl, b3⟩
  have B3 := Lib.hid (B1.out.next b3)
  clear b3 c1 c2 c3 c4 c5 c6 B0 B1
  go_wp2_with fail
  refine (awake_any _ B3.out.tab).mono ?_
  rintro e w4 ⟨rfl, b4⟩
  have B4 := Lib.hid (B3.out.next b4)
  clear b4
  go_wp2
  go_ret
  exact ⟨rfl, B4.out.b.bel⟩
set_option maxRecDepth 100000 in
set_option maxHeartbeats 16000000 in
theorem sizes_few (w : World) (s : Sh) (T : Task) (hT : CTab w) (h : InD w s T) (f : FewD T) (S : ByteArray) (n : Int) (Q : Nat) (hq : ∀ np ne nf, T.parts.length = np → T.edges.length = ne → T.futures.length = nf → Q = 21 + 7 * np + 2 * ne + 4 * nf + barsN T)
    (hS : txt (encL T) = S) (hn : chkT T = n) (hA : (n = 0 ∧ S.size = Q) ∨ ((n != 0) = true ∧ S = ⟨#[]⟩)) :
    Calls Tryz.prog 9 #[s.arg T.period T.deadline] w fun e w' => e = .returned (.bool true) ∧ Below w.heap.size w w' := by
  have B0 := Lib.hid (BxL.start h hT f)
  have F1 := Lib.hid f
  have C := Lib.hid (fun sx W (k : IsD W sx T) (k' : CTab W) => encode_any sx T W k k')
  rw [hS, hn] at C
  have HA := Lib.hid hA
  have HK := Lib.hid (fun k (h : k ≤ 9) => barsK_le f.bars k h)
  have hnp : s.np ≤ 20 := by have := f.np; have := h.t.hp; omega
  have hne : s.ne ≤ 60 := by have := f.ne; have := h.t.he; omega
  have hnf : s.nf ≤ 20 := by have := f.nf; have := h.t.hf; omega
  have hnr : s.nr ≤ 8 := by have := f.nr; have := h.t.hr; omega
  have HQ := Lib.hid (hq s.np s.ne s.nf h.t.hp h.t.he h.t.hf)
  have HR := Lib.hid h.t.hr
  have HALL := Lib.hid (barsK_all h.t.hr)
  obtain ⟨P, np, pc, E, ne, ec, F, nf, fc, R, nr, rc⟩ := s
  simp only at hnp hne hnf hnr HQ HR HALL
  clear h hT f hS hn hA hq
  go_enter Tryz.func9, Tryz.ntmps9
  go_wp2_with fail
  refine (awake_any _ B0.out.tab).mono ?_
  rintro e w1 ⟨rfl, b1⟩
  have B1 := Lib.hid (B0.out.next b1)
  clear b1
  obtain ⟨c1, c2, c3, c4, c5, c6⟩ := B1.out.b.c
  go_wp2_with fail
  refine (few_d B1.out.b.d.t F1.out).mono ?_
  rintro e w2 ⟨rfl, b2⟩
  have B2 := Lib.hid (B1.out.next b2)
  clear b2 c1 c2 c3 c4 c5 c6
  obtain ⟨c1, c2, c3, c4, c5, c6⟩ := B2.out.b.c
  go_wp2_with fail
  refine (own_d B2.out.b.d).mono ?_
  rintro e w3 ⟨sa, rfl, hd, b3⟩
  have B3 := Lib.hid (B2.out.next b3)
  have D3 := Lib.hid hd
  clear b3 c1 c2 c3 c4 c5 c6 hd
  go_wp2_with fail
  refine (C.out _ _ D3.out B3.out.tab).mono ?_
  rintro e w4 ⟨rfl, b4⟩
  have B4 := Lib.hid (B3.out.next b4)
  clear b4 D3 C B0 B1 B2 B3
  obtain ⟨c1, c2, c3, c4, c5, c6⟩ := B4.out.b.c
  simp only at c1 c2 c3 c4 c5 c6
  go_wp2_with fail
  go_loopw [5, 6] (fun q i wr => ∃ k : Nat, k ≤ nr ∧ q = .int .i64 (((21 + 7 * np + 2 * ne + 4 * nf + barsK T.bars k : Nat)) : Int) ∧ i = .int .i64 k ∧ Hid (BxL w ⟨P, np, pc, E, ne, ec, F, nf, fc, R, nr, rc⟩ T wr)) (fun _ i _ => nr - (intOf i).toNat)
  case atStart => exact ⟨0, Nat.zero_le _, by unfold barsK; go_num, rfl, B4⟩
  case round =>
    obtain ⟨k, hk, rfl, rfl, BR⟩ := hrel
    clear c1 c2 c3 c4 c5 c6 B4
    have hlim := HK.out k (by omega)
    obtain ⟨c1, c2, c3, c4, c5, c6⟩ := BR.out.b.c
    simp only at c1 c2 c3 c4 c5 c6
    by_cases hlt : k < nr
    · obtain ⟨b, off, xs, ys, A0, n0, k0, A1, n1, k1, hPe, hbg, hek, hn0, hn1, d1, d2, _, _, _, _⟩ := BR.out.b.d.t.bars.at_ (k := k) (by rw [HR.out]; exact hlt)
      simp only at hPe
      subst hPe
      have hst := barsK_snoc hek
      simp only [hn0, hn1] at hst
      have hl2 := HK.out (k + 1) (by omega)
      rw [hst] at hl2
      obtain ⟨z, hz⟩ : ∃ z, z = barsK T.bars k := ⟨_, rfl⟩
      rw [← hz] at hst hlim hl2 ⊢
      have HST := Lib.hid hst
      clear hst hek hn0 hn1 hz
      go_wp2_with fail
      go_region
      go_wp2
      go_roundw
      case rel => exact ⟨k + 1, by omega, by rw [HST.out]; go_num, by go_num, Lib.hid (BR.out.next (Below.refl _ _).drew)⟩
      case measure => simp [intOf]; omega
    · obtain rfl : k = nr := by omega
      have e1 : 21 + 7 * np + 2 * ne + 4 * nf + barsK T.bars k = Q := by rw [HALL.out, HQ.out]
      rw [e1]
      rcases HA.out with ⟨rfl, h2⟩ | ⟨h1, rfl⟩
      · rw [← h2]
        go_wp2
        go_ret
        exact ⟨rfl, BR.out.b.bel⟩
      · go_wp2
        go_ret
        exact ⟨rfl, BR.out.b.bel⟩
theorem walk_CodecSizes (w : World) {s : Sh} {T : Task} (h : InD w s T) (hT : CTab w) :
    Calls Tryz.prog 9 #[s.arg T.period T.deadline] w fun e w' => e = .returned (.bool true) ∧ Below w.heap.size w w' := by
  by_cases hf : FewD T
  · refine sizes_few w s T hT h hf _ _ (21 + 7 * T.parts.length + 2 * T.edges.length + 4 * T.futures.length + barsN T) (fun _ _ _ h1 h2 h3 => by rw [h1, h2, h3]) rfl rfl ?_
    by_cases hM : MayT T
    · exact .inl ⟨chkT_zero.mpr hM, encL_size hM⟩
    · exact .inr ⟨bne_iff_ne.mpr fun k => hM (chkT_zero.mp k), encL_no hM⟩
  · exact sizes_many w s T hT h hf
end Go.Proofs.YtlimcimioeepaaaGreatDoor
