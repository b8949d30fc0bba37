/- A task without its futures, lowered, in plain words, in the seat YtmelgolnmnebpaaGreatDoor. No statement is proved here. -/
import Derived.Test.YtmelgolnmnebpaaGreatDoorZLowRoundMath
import Derived.Test.YtmelgolnmnebpaaGreatDoorZM21
set_option linter.unusedSimpArgs false
set_option linter.unusedVariables false
namespace Go.Proofs.YtmelgolnmnebpaaGreatDoor

/-- A task without its futures. -/
def lessT (T : Task) : Task := { T with futures := [] }
theorem nst_nil (x : Nat) : nst [] x = 1 := by
  have := touK_len [] (x : Int) 99
  unfold nst touL
  simp only [List.length_nil] at this
  omega
theorem firN_nil : ∀ x, firN [] x = x
  | 0 => rfl
  | x + 1 => by rw [firN, firN_nil x, nst_nil]
theorem lasN_nil (x : Nat) : lasN [] x = x := by unfold lasN; rw [firN_nil, nst_nil]; omega
theorem ePs_nil : ∀ n, ePs [] n = []
  | 0 => rfl
  | n + 1 => by rw [ePs, ePs_nil n, nst_nil]; rfl
theorem lessT_E (T : Task) : lowE (lessT T) = T.edges.map (edgN []) ++ bEs [] T.bars T.parts.length T.bars.length := by
  unfold lowE lessT
  simp only [ePs_nil, firN_nil, List.length_nil, List.range_zero, List.map_nil, List.nil_append, List.append_nil]
/-- The last and the first step of what a node without futures is. -/
def hdN (T : Task) (x : Nat) : Nat := if x < T.parts.length then lasN T.futures x else firN T.futures T.parts.length + (x - T.parts.length)
def tlN (T : Task) (x : Nat) : Nat := if x < T.parts.length then firN T.futures x else firN T.futures T.parts.length + (x - T.parts.length)
def liftE (T : Task) (e : Int × Int) : Int × Int := (((hdN T e.1.toNat : Nat) : Int), ((tlN T e.2.toNat : Nat) : Int))
theorem hd_part {T : Task} {x : Nat} (h : x < T.parts.length) : hdN T x = lasN T.futures x := by unfold hdN; rw [if_pos h]
theorem tl_part {T : Task} {x : Nat} (h : x < T.parts.length) : tlN T x = firN T.futures x := by unfold tlN; rw [if_pos h]
theorem hd_bar (T : Task) (j : Nat) : hdN T (T.parts.length + j) = firN T.futures T.parts.length + j := by unfold hdN; rw [if_neg (by omega)]; omega
theorem tl_bar (T : Task) (j : Nat) : tlN T (T.parts.length + j) = firN T.futures T.parts.length + j := by unfold tlN; rw [if_neg (by omega)]; omega
theorem lift_bar {T : Task} {b : List Int × List Int} {j : Nat} (h : BarOne T.parts.length b) : (barN [] (T.parts.length + j) b).map (liftE T) = barN T.futures (firN T.futures T.parts.length + j) b := by
  have h1 : b.1.map (liftE T ∘ fun i => (((lasN [] i.toNat : Nat) : Int), ((T.parts.length + j : Nat) : Int))) = b.1.map fun i => (((lasN T.futures i.toNat : Nat) : Int), ((firN T.futures T.parts.length + j : Nat) : Int)) := List.map_congr_left fun i hi => by
    have := h.ins.parts i hi
    rw [Function.comp_apply]
    unfold liftE
    simp only [Int.toNat_natCast, lasN_nil]
    rw [hd_part (by omega), tl_bar]
  have h2 : b.2.map (liftE T ∘ fun i => (((T.parts.length + j : Nat) : Int), ((firN [] i.toNat : Nat) : Int))) = b.2.map fun i => (((firN T.futures T.parts.length + j : Nat) : Int), ((firN T.futures i.toNat : Nat) : Int)) := List.map_congr_left fun i hi => by
    have := h.outs.parts i hi
    rw [Function.comp_apply]
    unfold liftE
    simp only [Int.toNat_natCast, firN_nil]
    rw [tl_part (by omega), hd_bar]
  unfold barN
  rw [List.map_append, List.map_map, List.map_map, h1, h2]
theorem lift_bEs {T : Task} (hB : BarsOk T.parts.length T.bars) : ∀ k, k ≤ T.bars.length → (bEs [] T.bars T.parts.length k).map (liftE T) = bEs T.futures T.bars (firN T.futures T.parts.length) k
  | 0, _ => rfl
  | k + 1, hk => by
    have hg : T.bars.getD k ([], []) ∈ T.bars := by
      rw [List.getD_eq_getElem?_getD, List.getElem?_eq_getElem (by omega)]
      exact List.getElem_mem _
    rw [bEs, bEs, List.map_append, lift_bEs hB k (by omega), lift_bar (hB _ hg)]
theorem lift_E {T : Task} (hM : MayT T) : (lowE (lessT T)).map (liftE T) = T.edges.map (edgN T.futures) ++ bEs T.futures T.bars (firN T.futures T.parts.length) T.bars.length := by
  rw [lessT_E, List.map_append, lift_bEs hM.bars _ (Nat.le_refl _), List.map_map]
  refine congrArg (· ++ _) ?_
  refine List.map_congr_left fun e he => ?_
  have := hM.edges.1 e he
  rw [Function.comp_apply]
  unfold liftE edgN
  simp only [Int.toNat_natCast, firN_nil, lasN_nil]
  rw [hd_part (by omega), tl_part (by omega)]
theorem lift_sub {T : Task} (hM : MayT T) : ((lowE (lessT T)).map (liftE T)).Sublist (lowE T) := by
  rw [lift_E hM]
  unfold lowE
  refine List.Sublist.append ?_ (List.Sublist.refl _)
  rw [List.append_assoc]
  exact (List.sublist_append_left _ _).trans (List.sublist_append_right _ _)
theorem lift_ed {T : Task} (hM : MayT T) {a b : Nat} (h : ed (lowE (lessT T)) a b) : ed (lowE T) (hdN T a) (tlN T b) := by
  have := (lift_sub hM).subset (List.mem_map_of_mem (f := liftE T) h)
  unfold ed
  simpa [liftE] using this
theorem less_fits {T : Task} (hM : MayT T) : Fits (T.parts.length + T.bars.length) (lowE (lessT T)) := by
  intro e he
  rw [lessT_E] at he
  rcases List.mem_append.mp he with he | he
  · obtain ⟨e', h1, rfl⟩ := List.mem_map.mp he
    have := hM.edges.1 e' h1
    unfold edgN
    simp only [firN_nil, lasN_nil]
    omega
  · obtain ⟨j, hj, h3⟩ := mem_bEs _ he
    have hg : T.bars.getD j ([], []) ∈ T.bars := by
      rw [List.getD_eq_getElem?_getD, List.getElem?_eq_getElem hj]
      exact List.getElem_mem _
    have hB := hM.bars _ hg
    unfold barN at h3
    rcases List.mem_append.mp h3 with h3 | h3
    · obtain ⟨i, hi, rfl⟩ := List.mem_map.mp h3
      have := hB.ins.parts i hi
      simp only [lasN_nil]
      omega
    · obtain ⟨i, hi, rfl⟩ := List.mem_map.mp h3
      have := hB.outs.parts i hi
      simp only [firN_nil]
      omega
theorem on_hd {T : Task} {a x : Nat} (h : Way (lowE T) a (tlN T x)) : Way (lowE T) a (hdN T x) := by
  by_cases hx : x < T.parts.length
  · rw [tl_part hx] at h
    rw [hd_part hx]
    have hn := nst_pos T.futures x
    have e : lasN T.futures x = firN T.futures x + (nst T.futures x - 1) := by unfold lasN; omega
    rw [e]
    exact on_way hx (i := 0) (by omega) (by omega) h
  · unfold tlN at h
    unfold hdN
    rw [if_neg hx] at h ⊢
    exact h
theorem lift_way {T : Task} (hM : MayT T) {a b : Nat} (h : Way (lowE (lessT T)) a b) : Way (lowE T) (hdN T a) (hdN T b) := by
  induction h with
  | one e => exact on_hd (.one (lift_ed hM e))
  | more _ e ih => exact on_hd (.more ih (lift_ed hM e))
theorem less_acyc {T : Task} (h : LowOk T) : Acyc (lowE (lessT T)) := fun a ha => h.2.acyc _ (lift_way h.1 ha)
theorem less_may {T : Task} (h : MayT T) : MayT (lessT T) := by
  have hfew := h.few
  refine ⟨?_, h.time, h.parts, h.edges, ⟨fun f hf => by simp [lessT] at hf, by simp [lessT]⟩, h.bars⟩
  unfold ManyT lessT at *
  simp only [List.length_nil]
  omega
theorem wPs_nil (ps : List (Int × Int × Int)) : ∀ n, n ≤ ps.length → wPs [] ps n = (ps.take n).map fun e => e.2.2
  | 0, _ => rfl
  | n + 1, hn => by
    have hp : ps[n]? = some ps[n] := List.getElem?_eq_getElem (by omega)
    have ht : touL [] (n : Int) = [] := List.eq_nil_of_length_eq_zero (by have := touK_len [] (n : Int) 99; unfold touL; simp only [List.length_nil] at this; omega)
    rw [wPs, wPs_nil ps n (by omega), List.take_add_one, hp, List.map_append]
    refine congrArg (_ ++ ·) ?_
    unfold endsL
    rw [ht, List.getD_eq_getElem?_getD, hp]
    simp [stepW]
theorem less_W (T : Task) : lowW (lessT T) = (T.parts.map fun e => e.2.2) ++ List.replicate T.bars.length 1 := by
  unfold lowW lessT
  simp only
  rw [wPs_nil _ _ (Nat.le_refl _), List.take_length]
theorem less_ok {T : Task} (h : LowOk T) : LowOk (lessT T) := by
  have hM := less_may h.1
  have hlen := lowW_len hM
  have hfew := hM.few
  unfold ManyT at hfew
  have e1 : (lessT T).parts = T.parts := rfl
  have e2 : (lessT T).futures = [] := rfl
  have e3 : (lessT T).bars = T.bars := rfl
  rw [e1, e2, e3, List.length_nil] at hlen
  have hA := less_acyc h
  have hF := less_fits h.1
  refine ⟨hM, ?_, ?_, ?_, ?_, ?_, ?_, hA⟩
  · rw [e1, e2, e3] at hfew
    omega
  · have := lowE_len hM
    omega
  · intro z hz
    rw [less_W] at hz
    rcases List.mem_append.mp hz with hz | hz
    · obtain ⟨e, he, rfl⟩ := List.mem_map.mp hz
      have := h.1.parts e he
      unfold partOk at this
      omega
    · have := (List.mem_replicate.mp hz).2
      omega
  · rw [hlen]
    exact hF
  · intro e he hq
    have hf := hF e he
    refine hA e.1.toNat (.one ?_)
    unfold ed
    rw [show (((e.1.toNat : Nat) : Int), ((e.1.toNat : Nat) : Int)) = e from Prod.ext (by show ((e.1.toNat : Nat) : Int) = e.1; omega) (by show ((e.1.toNat : Nat) : Int) = e.2; omega)]
    exact he
  · have hn := (lift_sub h.1).nodup h.2.once
    exact List.Pairwise.of_map (liftE T) (fun a b h e => h (by rw [e])) hn
/-! The longest way -/
theorem far_ge {W : List Int} {E : List (Int × Int)} (hF : Fits W.length E) (hA : Acyc E) {x : Nat} (hx : x < W.length) : W.getD x 0 ≤ farAt W E x ∧ ∀ a, ed E a x → farAt W E a + W.getD x 0 ≤ farAt W E x := by
  have hl : ∀ a, a ∈ (List.range W.length).filter (fun a => decide (ed E a x)) ↔ ed E a x := fun a => by
    rw [List.mem_filter, List.mem_range, decide_eq_true_iff]
    exact ⟨fun h => h.2, fun h => ⟨(ed_lt hF h).1, h⟩⟩
  have hs := far_step hF hA hx hl
  obtain ⟨m0, m1, _⟩ := most_spec (((List.range W.length).filter (fun a => decide (ed E a x))).map (farAt W E))
  refine ⟨by omega, fun a ha => ?_⟩
  have := m1 _ (List.mem_map.mpr ⟨a, (hl a).mpr ha, rfl⟩)
  omega
theorem low_at {T : Task} {x i : Nat} (hx : x < T.parts.length) (hi : i < nst T.futures x) : (lowW T).getD (firN T.futures x + i) 0 = (endsL T.futures T.parts x).getD i 0 - befE (endsL T.futures T.parts x) i := by
  have h1 := firN_mono T.futures (show x + 1 ≤ T.parts.length by omega)
  have h2 : firN T.futures (x + 1) = firN T.futures x + nst T.futures x := rfl
  unfold lowW
  rw [List.getD_eq_getElem?_getD, List.getElem?_append_left (by rw [wPs_len]; omega), ← List.getD_eq_getElem?_getD]
  exact wPs_at hi _ hx
theorem far_part {T : Task} (h : LowOk T) {x : Nat} (hx : x < T.parts.length) {z : Int} (h0 : z + (lowW T).getD (firN T.futures x) 0 ≤ farAt (lowW T) (lowE T) (firN T.futures x)) : ∀ i, i < nst T.futures x → z + (endsL T.futures T.parts x).getD i 0 ≤ farAt (lowW T) (lowE T) (firN T.futures x + i)
  | 0, hi => by
    have := low_at hx hi
    rw [Nat.add_zero] at this ⊢
    rw [this] at h0
    unfold befE at h0
    simp only [if_true] at h0
    omega
  | i + 1, hi => by
    have ih := far_part h hx h0 i (by omega)
    have hlt : firN T.futures x + (i + 1) < (lowW T).length := by
      have h1 := firN_mono T.futures (show x + 1 ≤ T.parts.length by omega)
      have h2 : firN T.futures (x + 1) = firN T.futures x + nst T.futures x := rfl
      have h3 := firN_all h.1.parts h.1.futures
      rw [lowW_len h.1]
      omega
    have hg := (far_ge h.2.fits h.2.acyc hlt).2 _ (chain_ed hx (i := i) (by omega))
    rw [low_at hx hi] at hg
    unfold befE at hg
    rw [if_neg (by omega), show i + 1 - 1 = i by omega] at hg
    omega
theorem ends_end (fs ps : List (Int × Int × Int)) (x : Nat) : (endsL fs ps x).getD (nst fs x - 1) 0 = (ps.getD x (0, 0, 0)).2.2 := by
  unfold endsL
  rw [nst_eq, List.getD_eq_getElem?_getD, List.getElem?_append_right (by rw [List.length_map]; omega), List.length_map]
  simp
theorem less_at {T : Task} {x : Nat} : x < T.parts.length → (lowW (lessT T)).getD x 0 = (T.parts.getD x (0, 0, 0)).2.2 := fun hx => by
  rw [less_W, List.getD_eq_getElem?_getD, List.getElem?_append_left (by simpa using hx), List.getElem?_map, List.getElem?_eq_getElem hx, List.getD_eq_getElem?_getD, List.getElem?_eq_getElem hx]
  rfl
theorem low_bar {T : Task} (h : MayT T) {j : Nat} (hj : j < T.bars.length) : (lowW T).getD (firN T.futures T.parts.length + j) 0 = 1 := by
  unfold lowW
  rw [List.getD_eq_getElem?_getD, List.getElem?_append_right (by rw [wPs_len]; omega), wPs_len, List.getElem?_replicate, if_pos (by omega)]
  rfl
theorem less_bar {T : Task} {j : Nat} (hj : j < T.bars.length) : (lowW (lessT T)).getD (T.parts.length + j) 0 = 1 := by
  rw [less_W, List.getD_eq_getElem?_getD, List.getElem?_append_right (by simp), List.length_map, List.getElem?_replicate, if_pos (by omega)]
  rfl
theorem far_node {T : Task} (h : LowOk T) {x : Nat} (hx : x < T.parts.length + T.bars.length) {z : Int} (h0 : z + (lowW T).getD (tlN T x) 0 ≤ farAt (lowW T) (lowE T) (tlN T x)) : z + (lowW (lessT T)).getD x 0 ≤ farAt (lowW T) (lowE T) (hdN T x) := by
  by_cases hp : x < T.parts.length
  · rw [tl_part hp] at h0
    rw [hd_part hp, less_at hp]
    have hn := nst_pos T.futures x
    have := far_part h hp h0 (nst T.futures x - 1) (by omega)
    rw [ends_end] at this
    have e : lasN T.futures x = firN T.futures x + (nst T.futures x - 1) := by unfold lasN; omega
    rw [e]
    exact this
  · obtain ⟨j, rfl⟩ : ∃ j, x = T.parts.length + j := ⟨x - T.parts.length, by omega⟩
    rw [tl_bar, low_bar h.1 (by omega)] at h0
    rw [hd_bar, less_bar (by omega)]
    exact h0
theorem tl_lt {T : Task} (h : MayT T) {x : Nat} (hx : x < T.parts.length + T.bars.length) : tlN T x < (lowW T).length ∧ hdN T x < (lowW T).length := by
  have h3 := firN_all h.parts h.futures
  rw [lowW_len h]
  by_cases hp : x < T.parts.length
  · rw [tl_part hp, hd_part hp]
    have h1 := firN_mono T.futures (show x + 1 ≤ T.parts.length by omega)
    have h2 := lasN_eq T.futures x
    have h4 := fir_lt T.futures x
    omega
  · simp only [tlN, hdN, if_neg hp]
    omega
theorem far_up {T : Task} (h : LowOk T) : ∀ (r : List Nat) (b : Nat), Up (lowE (lessT T)) (b :: r) → In (T.parts.length + T.bars.length) (b :: r) → wsum (lowW (lessT T)) (b :: r) ≤ farAt (lowW T) (lowE T) (hdN T b)
  | [], b, _, hi => by
    have hb := hi b (by simp)
    have hg := (far_ge h.2.fits h.2.acyc (tl_lt h.1 hb).1).1
    have := far_node h hb (z := 0) (by omega)
    simp only [wsum, List.map_cons, List.map_nil, List.sum_cons, List.sum_nil]
    omega
  | a :: r, b, hu, hi => by
    have hb := hi b (by simp)
    have ih := far_up h r a hu.2 (fun x hx => hi x (by simp [hx]))
    have hg := (far_ge h.2.fits h.2.acyc (tl_lt h.1 hb).1).2 _ (lift_ed h.1 hu.1)
    have := far_node h hb hg
    simp only [wsum, List.map_cons, List.sum_cons] at ih ⊢
    omega
theorem less_long {T : Task} (h : LowOk T) : longV (lowW (lessT T)) (lowE (lessT T)) ≤ longV (lowW T) (lowE T) := by
  have h' := less_ok h
  unfold longV
  rw [if_pos h'.2, if_pos h.2]
  have hL := long_is h'.2.fits h'.2.acyc (fun z hz => by have := h'.2.work z hz; omega)
  have hlen := lowW_len h'.1
  have e1 : (lessT T).parts = T.parts := rfl
  have e2 : (lessT T).futures = [] := rfl
  have e3 : (lessT T).bars = T.bars := rfl
  rw [e1, e2, e3, List.length_nil] at hlen
  rcases hL.2 with ⟨_, h0⟩ | ⟨p, hp, hi, he⟩
  · rw [h0]
    exact (most_spec _).1
  · rw [← he]
    cases p with
    | nil => exact hp.elim
    | cons b r =>
      rw [hlen] at hi
      have hi' : In (T.parts.length + T.bars.length) (b :: r) := fun x hx => by have := hi x hx; omega
      refine Int.le_trans (far_up h r b hp hi') ?_
      have hlt := (tl_lt h.1 (hi' b (by simp))).2
      refine (most_spec _).2.1 _ ?_
      have hl2 : hdN T b < (farK (lowW T) (lowE T) (lowW T).length).length := by rw [farK_length]; exact hlt
      unfold farAt
      rw [List.getD_eq_getElem?_getD, List.getElem?_eq_getElem hl2]
      exact List.getElem_mem hl2
theorem less_total {T : Task} (h : LowOk T) : totalV (lowW (lessT T)) (lowE (lessT T)) = totalV (lowW T) (lowE T) := by
  unfold totalV
  rw [if_pos (less_ok h).2, if_pos h.2, lowW_sum, lowW_sum]
  rfl
theorem less_len {T : Task} (h : LowOk T) : (lowW T).length = (lowW (lessT T)).length + T.futures.length := by
  have h1 := lowW_len h.1
  have h2 := lowW_len (less_may h.1)
  have e1 : (lessT T).parts = T.parts := rfl
  have e2 : (lessT T).futures = [] := rfl
  have e3 : (lessT T).bars = T.bars := rfl
  rw [e1, e2, e3, List.length_nil] at h2
  omega
end Go.Proofs.YtmelgolnmnebpaaGreatDoor
