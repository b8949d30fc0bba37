/- What is wrong with bytes, and with those of a task: plain words, in the seat YtlimcimioeepaaaGreatDoor.
   The contract of awake of trefoillaw06 in the seat YtlimcimioeepaaaGreatDoor (printed by codec/mk_awake.py).
   No statement is proved here. -/
import Derived.Test.YtlimcimioeepaaaGreatDoorZG19
import Derived.Test.YtlimcimioeepaaaGreatDoorZG22
import Derived.Test.YtlimcimioeepaaaGreatDoorZG8
set_option linter.unusedVariables false
namespace Go.Proofs.YtlimcimioeepaaaGreatDoor
open Go.RowKit

theorem sealL_length (l : List UInt8) : (sealL l).length = l.length + 4 := by unfold sealL; rw [List.length_append, tl_length]
theorem txB_of (l : List UInt8) : txB (txt l) = l.take (l.length - 4) := by
  unfold txB
  rw [text_list, txt_list, txt_size]
theorem txB_seal (l : List UInt8) : txB (txt (sealL l)) = l := by
  rw [txB_of, sealL_length, show l.length + 4 - 4 = l.length by omega]
  unfold sealL
  exact List.take_left
theorem sound_sealL (l : List UInt8) : sound (txt (sealL l)) := by
  rw [← sealS_txt]
  exact sound_seal _
/-- What may be is decoded as it was. -/
theorem flaw_seal {T : Task} (h : MayT T) : flaw (txt (sealL (bodyB T))) = none ∧ decT (txt (sealL (bodyB T))) = T := by
  have R := read_B h.small []
  rw [List.append_nil] at R
  have hl := bodyB_length T
  have hz : (txt (sealL (bodyB T))).size = (bodyB T).length + 4 := by rw [txt_size, sealL_length]
  have hf : flaw (txt (sealL (bodyB T))) = none := by
    unfold flaw
    rw [txB_seal, hz, if_neg (by omega), if_neg (fun k => k (sound_sealL _)), if_neg (fun k => k R.magic), if_neg (fun k => k R.ver), if_neg (fun k => k R.fits), if_neg (by rw [R.whole]; omega), R.task, if_neg (fun k => k (chkT_zero.mpr h))]
  refine ⟨hf, ?_⟩
  unfold decT
  rw [hf]
  show taskR (txB _) = T
  rw [txB_seal]
  exact R.task
/-- What is decoded may be, and its bytes are those. -/
theorem flaw_none {s : ByteArray} (h : flaw s = none) : MayT (decT s) ∧ txt (sealL (bodyB (decT s))) = s := by
  have hd : decT s = taskR (txB s) := by unfold decT; rw [h]; rfl
  rw [hd]
  unfold flaw at h
  split at h
  · cases h
  rename_i h0
  split at h
  · cases h
  rename_i h1
  split at h
  · cases h
  rename_i h2
  split at h
  · cases h
  rename_i h3
  split at h
  · cases h
  rename_i h4
  split at h
  · cases h
  rename_i h5
  split at h
  · cases h
  rename_i h6
  have k1 := Classical.not_not.mp h1
  have k2 := Classical.not_not.mp h2
  have k3 := Classical.not_not.mp h3
  have k4 := Classical.not_not.mp h4
  have k6 := Classical.not_not.mp h6
  have hl := txB_length s
  have hw : wholeB (txB s) = (txB s).length := by
    have h := (barsB_R _ _ k4.2).2
    have h6 := k4.1
    rw [List.length_drop] at h
    unfold wholeB at h5 ⊢
    omega
  refine ⟨chkT_zero.mp k6, ?_⟩
  rw [body_R (by omega) k2 k3 k4 hw, ← sealS_txt, txB_txt]
  exact seal_text k1
/-- Where something is wrong is within the bytes. -/
theorem flaw_some {s : ByteArray} {f : Int × Int × Int} (h : flaw s = some f) : 0 ≤ f.1 ∧ f.1 ≤ f.2.1 ∧ f.2.1 ≤ s.size ∧ f.2.2 ≠ 0 := by
  have hl := txB_length s
  unfold flaw at h
  split at h
  · obtain rfl := Option.some.inj h
    exact ⟨by simp, by simp, by simp, by simp⟩
  rename_i h0
  split at h
  · obtain rfl := Option.some.inj h
    exact ⟨by simp only; omega, by simp only; omega, by simp, by simp⟩
  split at h
  · obtain rfl := Option.some.inj h
    exact ⟨by simp, by simp, by simp only; omega, by simp⟩
  split at h
  · obtain rfl := Option.some.inj h
    exact ⟨by simp, by simp, by simp only; omega, by simp⟩
  split at h
  · rename_i h4
    obtain rfl := Option.some.inj h
    obtain ⟨q, hq, h1, h2⟩ := taskS_cut (by omega) h4
    have hc : cutS (txB s) = q := by unfold cutS; rw [hq]
    exact ⟨by simp only; omega, by simp only; omega, by simp only; omega, by simp⟩
  split at h
  · obtain rfl := Option.some.inj h
    exact ⟨by simp only; omega, by simp only; omega, by simp only; omega, by simp⟩
  split at h
  · rename_i h6
    obtain rfl := Option.some.inj h
    exact ⟨by simp, by simp only; omega, by simp only; omega, h6⟩
  · cases h
theorem flaw_unsound {s : ByteArray} (h : 21 ≤ s.size) (hn : ¬ sound s) : flaw s = some ((s.size : Int) - 4, (s.size : Int), (61 : Int)) := by
  unfold flaw
  rw [if_neg (by omega), if_pos hn]
theorem flaw_short {s : ByteArray} (h : s.size < 21) : flaw s = some ((0 : Int), (s.size : Int), (60 : Int)) := by
  unfold flaw
  rw [if_pos h]
/-- A beginning of a task's bytes. -/
theorem flaw_cut {T : Task} (h : MayT T) {a : Nat} (ha : a < (sealL (bodyB T)).length) : enoO (flaw (txt ((sealL (bodyB T)).take a))) = 60 ∨ enoO (flaw (txt ((sealL (bodyB T)).take a))) = 61 ∨ enoO (flaw (txt ((sealL (bodyB T)).take a))) = 64 := by
  rw [sealL_length] at ha
  have hz : (txt ((sealL (bodyB T)).take a)).size = a := by rw [txt_size, List.length_take, sealL_length]; omega
  by_cases h0 : a < 21
  · rw [flaw_short (by rw [hz]; exact h0)]
    exact .inl rfl
  by_cases h1 : sound (txt ((sealL (bodyB T)).take a))
  · right; right
    have hb : txB (txt ((sealL (bodyB T)).take a)) = (bodyB T).take (a - 4) := by
      rw [txB_of, List.length_take, sealL_length, List.take_take]
      unfold sealL
      rw [show min (min a ((bodyB T).length + 4) - 4) a = a - 4 by omega, List.take_append_of_le_length (by omega)]
    have R := read_B h.small []
    rw [List.append_nil] at R
    have hm : magicB ((bodyB T).take (a - 4)) := by
      have := R.magic
      unfold magicB at this ⊢
      rw [List.take_take, Nat.min_eq_left (by omega)]
      exact this
    have hv : verB ((bodyB T).take (a - 4)) := by
      have := R.ver
      unfold verB at this ⊢
      rw [List.drop_take, rd_take (by omega)]
      exact this
    have hn := cut_B h.small (m := a - 4) (by omega) (by omega)
    unfold flaw
    rw [hz, hb, if_neg h0, if_neg (fun k => k h1), if_neg (fun k => k hm), if_neg (fun k => k hv), if_pos hn]
    rfl
  · rw [flaw_unsound (by rw [hz]; omega) h1]
    exact .inr (.inl rfl)
/-- One byte of a task's bytes that is another one. -/
theorem flaw_turned {T : Task} (h : MayT T) {a : Nat} {y : UInt8} (hy : y ≠ 0) (ha : a < (sealL (bodyB T)).length) : enoO (flaw (txt (turnB (sealL (bodyB T)) a (fun _ => y) 1))) = 61 := by
  have hl := bodyB_length T
  rw [sealL_length] at ha
  have hu := one_unsound (txt (bodyB T)) a y hy (by rw [txt_size]; exact ha)
  rw [txt_list] at hu
  have e := flaw_unsound (s := txt (turnB (sealL (bodyB T)) a (fun _ => y) 1)) (by rw [txt_size, turnB_length, sealL_length]; omega) hu
  rw [e]
  rfl

/-! ### The chapter's example -/
def exC : Task := ⟨2, 1, [(1, 3, 1)], [], [], []⟩
theorem exC_few : FewT exC := ⟨by decide, by decide, by decide, by decide, by simp [exC]⟩
theorem exC_may : MayT exC where
  few := by unfold ManyT; decide
  time := by decide
  parts := by decide
  edges := ⟨by unfold Fits; decide, by decide, by decide⟩
  futures := ⟨fun f hf => by simp [exC] at hf, by decide⟩
  bars := fun b hb => by simp [exC] at hb
theorem exC_body : bodyB exC = [100, 97, 103, 49, 1, 1, 0, 0, 0, 2, 0, 0, 0, 1, 0, 0, 0, 1, 3, 0, 0, 0, 1, 0] := by decide +kernel
theorem exC_enc : encL exC = sealL (bodyB exC) := by unfold encL; rw [if_pos exC_may]
theorem exC_len : (sealL (bodyB exC)).length = 28 := by rw [sealL_length, exC_body]; rfl
theorem exC_more : ¬ sound (txt (sealL (bodyB exC) ++ [97])) := by
  intro h
  have h2 := (sound_list (sealL (bodyB exC) ++ [97])).mp h
  have h1 := h2.2
  rw [exC_body] at h1
  revert h1
  decide +kernel
theorem exC_spoilt : enoO (flaw (txt (sealL (bodyB exC) ++ [97]))) = 61 := by
  rw [flaw_unsound (by rw [txt_size, List.length_append, exC_len]; decide) exC_more]
  rfl
theorem dag1_flaw : flaw ⟨#[100, 97, 103, 49]⟩ = some (0, 4, 60) := by
  rw [flaw_short (by decide)]
  rfl
end Go.Proofs.YtlimcimioeepaaaGreatDoor
set_option linter.unusedVariables false
namespace Go.Proofs.YtlimcimioeepaaaGreatDoor
open Go.RowKit

@[reducible] def shC (w : World) : Sh := ⟨some ⟨w.heap.size, 0, none⟩, 1, 1, none, 0, 0, none, 0, 0, none, 0, 0⟩
/-- The example's task in its box. -/
structure StC (w w' : World) : Prop where
  bel : Below w.heap.size w w'
  d : w'.heap[w.heap.size + 1]? = some (.cells #[.int .i64 2, .int .i64 1, .slice (some ⟨w.heap.size, 0, none⟩) 1 1, .slice none 0 0, .slice none 0 0, .slice none 0 0] 27 (0, 0))
  gd : IsD w' (shC w) exC
  tab : CTab w'
theorem StC.next {w w1 w2 : World} (h : StC w w1) (hb : Below w1.heap.size w1 w2) : StC w w2 :=
  ⟨h.bel.trans (hb.mono h.bel.size), by rw [hb.block _ (Array.getElem?_eq_some_iff.mp h.d).1]; exact h.d, h.gd.below hb, h.tab.via hb⟩
theorem StC.start (w : World) (h : CTab w) : StC w ((w.alloc (.cells #[.int .i64 1, .int .i64 3, .int .i64 1] 52)).alloc (.cells #[.int .i64 2, .int .i64 1, .slice (some ⟨w.heap.size, 0, none⟩) 1 1, .slice none 0 0, .slice none 0 0, .slice none 0 0] 27)) := by
  obtain ⟨w1, h1⟩ : ∃ w1, w1 = w.alloc (.cells #[.int .i64 1, .int .i64 3, .int .i64 1] 52) := ⟨_, rfl⟩
  have b1 : Below w.heap.size w w1 := by rw [h1]; exact below_alloc _
  have s1 : w1.heap.size = w.heap.size + 1 := by rw [h1]; simp
  have r1 : w1.heap[w.heap.size]? = some (.cells #[.int .i64 1, .int .i64 3, .int .i64 1] 52 (0, 0)) := by rw [h1]; exact heap_alloc_new w _
  rw [← h1]
  have b2 : Below w1.heap.size w1 (w1.alloc (.cells #[.int .i64 2, .int .i64 1, .slice (some ⟨w.heap.size, 0, none⟩) 1 1, .slice none 0 0, .slice none 0 0, .slice none 0 0] 27)) := below_alloc _
  have b0 : Below w.heap.size w (w1.alloc (.cells #[.int .i64 2, .int .i64 1, .slice (some ⟨w.heap.size, 0, none⟩) 1 1, .slice none 0 0, .slice none 0 0, .slice none 0 0] 27)) := b1.trans (b2.mono (by omega))
  have t1 : Trips w1 w1.heap.size (some ⟨w.heap.size, 0, none⟩) exC.parts := fun _ => by
    refine ⟨_, _, rfl, by omega, fun k e he => ?_⟩
    match k, he with
    | 0, he =>
      obtain rfl : ((1, 3, 1) : Int × Int × Int) = e := by simpa [exC] using he
      simp [World.cell?, r1]
    | k + 1, he => simp [exC] at he
  refine ⟨b0, ?_, ⟨⟨rfl, rfl, rfl, rfl, (t1.below b2).more b2.size, (fun h => absurd h (by decide)), (fun h => absurd h (by decide)), (fun h => absurd h (by decide)), (fun e => by cases e), (fun _ => ⟨rfl, rfl⟩), (fun _ => ⟨rfl, rfl⟩), (fun _ => ⟨rfl, rfl⟩)⟩, exC_few, (h.via b0).two, Nat.le_refl _, Nat.le_refl _⟩, h.via b0⟩
  rw [← s1]
  exact heap_alloc_new w1 _
theorem exC_add : txt (sealL (bodyB exC)) ++ ⟨#[97]⟩ = txt (sealL (bodyB exC) ++ [97]) := txt_add _ [97]
set_option maxRecDepth 100000 in
set_option maxHeartbeats 8000000 in
theorem awake_any (w : World) (hT : CTab w) : Calls Tryz.prog 10 #[] w fun e w' => e = .returned (.bool true) ∧ Below w.heap.size w w' := by
  have H0 := Lib.hid (StC.start w hT)
  obtain ⟨S, hS⟩ : ∃ S, S = txt (sealL (bodyB exC)) := ⟨_, rfl⟩
  have hz : S.size = 28 := by rw [hS, txt_size, exC_len]
  have hz2 : (S ++ ⟨#[97]⟩).size = 29 := by rw [hS, exC_add, txt_size, List.length_append, exC_len]; rfl
  have K1 := Lib.hid (fun W (h : StC w W) => encode_any (shC w) exC W h.gd h.tab)
  rw [exC_enc, chkT_zero.mpr exC_may, ← hS] at K1
  have K2 := Lib.hid (fun W (h : CTab W) => decode_any S W (by omega) h)
  rw [hS, (flaw_seal exC_may).1, (flaw_seal exC_may).2, ← hS] at K2
  have K3 := Lib.hid (fun W (h : CTab W) => decode_any (S ++ ⟨#[97]⟩) W (by omega) h)
  rw [show enoO (flaw (S ++ ⟨#[97]⟩)) = 61 by rw [hS, exC_add]; exact exC_spoilt] at K3
  have K4 := Lib.hid (fun W (h : CTab W) => why_any ⟨#[100, 97, 103, 49]⟩ W (by decide) h)
  rw [dag1_flaw] at K4
  have K5 := Lib.hid (fun W (h : CTab W) => why_any S W (by omega) h)
  rw [hS, (flaw_seal exC_may).1, ← hS] at K5
  simp only [fromO, toO, enoO, isO] at K2 K4 K5
  have K6 := Lib.hid (fun sx W (h : IsT W W.heap.size (shC w) exC) (h' : IsT W W.heap.size sx exC) => same_any5 (shC w) sx exC exC W exC_few exC_few h h')
  rw [decide_eq_true (rfl : exC = exC)] at K6
  clear hS hT
  go_enter Tryz.func10, Tryz.ntmps10
  go_wp2_with fail
  refine (K1.out _ H0.out).mono ?_
  rintro e w1 ⟨rfl, b⟩
  have H1 := Lib.hid (H0.out.next b)
  clear b H0
  go_wp2_with fail
  refine (K2.out _ H1.out.tab).mono ?_
  rintro e w2 ⟨sx, rfl, hO, b⟩
  have H2 := Lib.hid (H1.out.next b)
  obtain ⟨hI, _, _⟩ := hO.at
  have HI := Lib.hid hI
  clear b H1 hO hI
  obtain ⟨w3, hw3⟩ : ∃ w3, w3 = w2.alloc (.cells #[.int .i64 exC.period, .int .i64 exC.deadline, .slice sx.P sx.np sx.pc, .slice sx.E sx.ne sx.ec, .slice sx.F sx.nf sx.fc, .slice sx.R sx.nr sx.rc] 27) := ⟨_, rfl⟩
  have hb3 : Below w2.heap.size w2 w3 := by rw [hw3]; exact below_alloc _
  have hx3 : w3.heap[w2.heap.size]? = some (.cells #[.int .i64 exC.period, .int .i64 exC.deadline, .slice sx.P sx.np sx.pc, .slice sx.E sx.ne sx.ec, .slice sx.F sx.nf sx.fc, .slice sx.R sx.nr sx.rc] 27 (0, 0)) := by rw [hw3]; exact heap_alloc_new w2 _
  have H3 := Lib.hid (H2.out.next hb3)
  have HI3 := Lib.hid ((HI.out.below hb3).more hb3.size)
  have HX3 := Lib.hid hx3
  clear hx3 hb3
  go_wp2_with fail
  rw [← hw3]
  clear hw3
  refine (K3.out _ H3.out.tab).mono ?_
  rintro e w4 ⟨sy, rfl, hO, b⟩
  have H4 := Lib.hid (H3.out.next b)
  have HI4 := Lib.hid ((HI3.out.below b).more b.size)
  have HX4 := Lib.hid ((b.block _ (Array.getElem?_eq_some_iff.mp HX3.out).1).trans HX3.out)
  clear b hO H3 H2 HI HI3 HX3
  go_wp2_with fail
  refine (K4.out _ (H4.out.tab.via (below_alloc _))).mono ?_
  rintro e w5 ⟨rfl, b⟩
  have b' := (below_alloc (w := w4) _).trans (b.mono (by simp))
  have H5 := Lib.hid (H4.out.next b')
  have HI5 := Lib.hid ((HI4.out.below b').more b'.size)
  have HX5 := Lib.hid ((b'.block _ (Array.getElem?_eq_some_iff.mp HX4.out).1).trans HX4.out)
  clear b b' H4 HI4 HX4
  obtain ⟨w6, hw6⟩ : ∃ w6, w6 = w5.alloc (.cells #[.int .i64 0, .int .i64 4] 37) := ⟨_, rfl⟩
  have hb6 : Below w5.heap.size w5 w6 := by rw [hw6]; exact below_alloc _
  have hs6 : w6.heap[w5.heap.size]? = some (.cells #[.int .i64 0, .int .i64 4] 37 (0, 0)) := by rw [hw6]; exact heap_alloc_new w5 _
  have H6 := Lib.hid (H5.out.next hb6)
  have HI6 := Lib.hid ((HI5.out.below hb6).more hb6.size)
  have HX6 := Lib.hid ((hb6.block _ (Array.getElem?_eq_some_iff.mp HX5.out).1).trans HX5.out)
  have HS6 := Lib.hid hs6
  clear hb6 hs6 H5 HI5 HX5
  go_wp2_with fail
  rw [← hw6]
  clear hw6
  refine (K5.out _ H6.out.tab).mono ?_
  rintro e w7 ⟨rfl, b⟩
  have H7 := Lib.hid (H6.out.next b)
  have HI7 := Lib.hid ((HI6.out.below b).more b.size)
  have HX7 := Lib.hid ((b.block _ (Array.getElem?_eq_some_iff.mp HX6.out).1).trans HX6.out)
  have HS7 := Lib.hid ((b.block _ (Array.getElem?_eq_some_iff.mp HS6.out).1).trans HS6.out)
  clear b H6 HI6 HX6 HS6
  obtain ⟨w8, hw8⟩ : ∃ w8, w8 = w7.alloc (.cells #[.int .i64 0, .int .i64 0] 37) := ⟨_, rfl⟩
  have hb8 : Below w7.heap.size w7 w8 := by rw [hw8]; exact below_alloc _
  have H8 := Lib.hid (H7.out.next hb8)
  have HI8 := Lib.hid ((HI7.out.below hb8).more hb8.size)
  have hx8 := (hb8.block _ (Array.getElem?_eq_some_iff.mp HX7.out).1).trans HX7.out
  have hs8 := (hb8.block _ (Array.getElem?_eq_some_iff.mp HS7.out).1).trans HS7.out
  have hl1 : w.heap.size + 1 < w7.heap.size := (Array.getElem?_eq_some_iff.mp H7.out.d).1
  have hl2 : w2.heap.size < w7.heap.size := (Array.getElem?_eq_some_iff.mp HX7.out).1
  have hl3 : w5.heap.size < w7.heap.size := (Array.getElem?_eq_some_iff.mp HS7.out).1
  have d0 := cell_of_row w7 (w.heap.size + 1) 0 _ _ _ H7.out.d
  have d1 := cell_of_row w7 (w.heap.size + 1) 1 _ _ _ H7.out.d
  have d2 := cell_of_row w7 (w.heap.size + 1) 2 _ _ _ H7.out.d
  have d3 := cell_of_row w7 (w.heap.size + 1) 3 _ _ _ H7.out.d
  have d4 := cell_of_row w7 (w.heap.size + 1) 4 _ _ _ H7.out.d
  have d5 := cell_of_row w7 (w.heap.size + 1) 5 _ _ _ H7.out.d
  simp at d0 d1 d2 d3 d4 d5
  have x0 := cell_of_row w7 w2.heap.size 0 _ _ _ HX7.out
  have x1 := cell_of_row w7 w2.heap.size 1 _ _ _ HX7.out
  have x2 := cell_of_row w7 w2.heap.size 2 _ _ _ HX7.out
  have x3 := cell_of_row w7 w2.heap.size 3 _ _ _ HX7.out
  have x4 := cell_of_row w7 w2.heap.size 4 _ _ _ HX7.out
  have x5 := cell_of_row w7 w2.heap.size 5 _ _ _ HX7.out
  simp at x0 x1 x2 x3 x4 x5
  have s0 := cell_of_row w7 w5.heap.size 0 _ _ _ HS7.out
  have s1 := cell_of_row w7 w5.heap.size 1 _ _ _ HS7.out
  simp at s0 s1
  clear hb8
  go_wp2_with fail
  rw [← hw8]
  clear d0 d1 d2 d3 d4 d5 x0 x1 x2 x3 x4 x5 s0 s1
  clear hw8
  refine (K6.out sx _ H8.out.gd.t HI8.out).mono ?_
  rintro e w9 ⟨rfl, b⟩
  have H9 := Lib.hid (H8.out.next b)
  have hs9 := (b.block _ (Array.getElem?_eq_some_iff.mp hs8).1).trans hs8
  have s0 := cell_of_row w9 w5.heap.size 0 _ _ _ hs9
  have s1 := cell_of_row w9 w5.heap.size 1 _ _ _ hs9
  simp at s0 s1
  clear b hs8 hs9 hx8
  go_wp2
  go_ret
  exact ⟨rfl, H9.out.bel⟩
end Go.Proofs.YtlimcimioeepaaaGreatDoor
