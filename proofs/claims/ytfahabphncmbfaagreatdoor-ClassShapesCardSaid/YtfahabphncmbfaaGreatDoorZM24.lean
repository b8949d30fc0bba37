/- A task without its futures, lowered, in plain words, in the seat YtfahabphncmbfaaGreatDoor.
   trefoilref07.Steps, First, Final, Begin in the seat YtfahabphncmbfaaGreatDoor: their contracts.
   trefoilref07.Begin in the seat YtfahabphncmbfaaGreatDoor: its contract.
   No statement is proved here. -/
import Derived.Test.YtfahabphncmbfaaGreatDoorZM23
import Derived.Test.YtfahabphncmbfaaGreatDoorZM20
import Derived.Test.YtfahabphncmbfaaGreatDoorZM13
import Derived.Test.YtfahabphncmbfaaGreatDoorZM9
import Derived.Test.YtfahabphncmbfaaGreatDoorZM22
import Derived.BigQuiet
set_option linter.unusedSimpArgs false
set_option linter.unusedVariables false
namespace Go.Proofs.YtfahabphncmbfaaGreatDoor

/-- A task without its futures. -/
def lessT (T : Task) : Task := { T with futures := [] }
theorem nst_nil (x : Nat) : nst [] x = 1 := by
  have := touK_len [] (x : Int) 99
  unfold nst touL
  simp only [List.length_nil] at this
  omega
theorem firN_nil : ∀ x, firN [] x = x
  | 0 => rfl
  | x + 1 => by rw [firN, firN_nil x, nst_nil]
theorem lasN_nil (x : Nat) : lasN [] x = x := by unfold lasN; rw [firN_nil, nst_nil]; omega
theorem ePs_nil : ∀ n, ePs [] n = []
  | 0 => rfl
  | n + 1 => by rw [ePs, ePs_nil n, nst_nil]; rfl
theorem lessT_E (T : Task) : lowE (lessT T) = T.edges.map (edgN []) ++ bEs [] T.bars T.parts.length T.bars.length := by
  unfold lowE lessT
  simp only [ePs_nil, firN_nil, List.length_nil, List.range_zero, List.map_nil, List.nil_append, List.append_nil]
/-- The last and the first step of what a node without futures is. -/
def hdN (T : Task) (x : Nat) : Nat := if x < T.parts.length then lasN T.futures x else firN T.futures T.parts.length + (x - T.parts.length)
def tlN (T : Task) (x : Nat) : Nat := if x < T.parts.length then firN T.futures x else firN T.futures T.parts.length + (x - T.parts.length)
def liftE (T : Task) (e : Int × Int) : Int × Int := (((hdN T e.1.toNat : Nat) : Int), ((tlN T e.2.toNat : Nat) : Int))
theorem hd_part {T : Task} {x : Nat} (h : x < T.parts.length) : hdN T x = lasN T.futures x := by unfold hdN; rw [if_pos h]
theorem tl_part {T : Task} {x : Nat} (h : x < T.parts.length) : tlN T x = firN T.futures x := by unfold tlN; rw [if_pos h]
theorem hd_bar (T : Task) (j : Nat) : hdN T (T.parts.length + j) = firN T.futures T.parts.length + j := by unfold hdN; rw [if_neg (by omega)]; omega
theorem tl_bar (T : Task) (j : Nat) : tlN T (T.parts.length + j) = firN T.futures T.parts.length + j := by unfold tlN; rw [if_neg (by omega)]; omega
theorem lift_bar {T : Task} {b : List Int × List Int} {j : Nat} (h : BarOne T.parts.length b) : (barN [] (T.parts.length + j) b).map (liftE T) = barN T.futures (firN T.futures T.parts.length + j) b := by
  have h1 : b.1.map (liftE T ∘ fun i => (((lasN [] i.toNat : Nat) : Int), ((T.parts.length + j : Nat) : Int))) = b.1.map fun i => (((lasN T.futures i.toNat : Nat) : Int), ((firN T.futures T.parts.length + j : Nat) : Int)) := List.map_congr_left fun i hi => by
    have := h.ins.parts i hi
    rw [Function.comp_apply]
    unfold liftE
    simp only [Int.toNat_natCast, lasN_nil]
    rw [hd_part (by omega), tl_bar]
  have h2 : b.2.map (liftE T ∘ fun i => (((T.parts.length + j : Nat) : Int), ((firN [] i.toNat : Nat) : Int))) = b.2.map fun i => (((firN T.futures T.parts.length + j : Nat) : Int), ((firN T.futures i.toNat : Nat) : Int)) := List.map_congr_left fun i hi => by
    have := h.outs.parts i hi
    rw [Function.comp_apply]
    unfold liftE
    simp only [Int.toNat_natCast, firN_nil]
    rw [tl_part (by omega), hd_bar]
  unfold barN
  rw [List.map_append, List.map_map, List.map_map, h1, h2]
theorem lift_bEs {T : Task} (hB : BarsOk T.parts.length T.bars) : ∀ k, k ≤ T.bars.length → (bEs [] T.bars T.parts.length k).map (liftE T) = bEs T.futures T.bars (firN T.futures T.parts.length) k
  | 0, _ => rfl
  | k + 1, hk => by
    have hg : T.bars.getD k ([], []) ∈ T.bars := by
      rw [List.getD_eq_getElem?_getD, List.getElem?_eq_getElem (by omega)]
      exact List.getElem_mem _
    rw [bEs, bEs, List.map_append, lift_bEs hB k (by omega), lift_bar (hB _ hg)]
theorem lift_E {T : Task} (hM : MayT T) : (lowE (lessT T)).map (liftE T) = T.edges.map (edgN T.futures) ++ bEs T.futures T.bars (firN T.futures T.parts.length) T.bars.length := by
  rw [lessT_E, List.map_append, lift_bEs hM.bars _ (Nat.le_refl _), List.map_map]
  refine congrArg (· ++ _) ?_
  refine List.map_congr_left fun e he => ?_
  have := hM.edges.1 e he
  rw [Function.comp_apply]
  unfold liftE edgN
  simp only [Int.toNat_natCast, firN_nil, lasN_nil]
  rw [hd_part (by omega), tl_part (by omega)]
theorem lift_sub {T : Task} (hM : MayT T) : ((lowE (lessT T)).map (liftE T)).Sublist (lowE T) := by
  rw [lift_E hM]
  unfold lowE
  refine List.Sublist.append ?_ (List.Sublist.refl _)
  rw [List.append_assoc]
  exact (List.sublist_append_left _ _).trans (List.sublist_append_right _ _)
theorem lift_ed {T : Task} (hM : MayT T) {a b : Nat} (h : ed (lowE (lessT T)) a b) : ed (lowE T) (hdN T a) (tlN T b) := by
  have := (lift_sub hM).subset (List.mem_map_of_mem (f := liftE T) h)
  unfold ed
  simpa [liftE] using this
theorem less_fits {T : Task} (hM : MayT T) : Fits (T.parts.length + T.bars.length) (lowE (lessT T)) := by
  intro e he
  rw [lessT_E] at he
  rcases List.mem_append.mp he with he | he
  · obtain ⟨e', h1, rfl⟩ := List.mem_map.mp he
    have := hM.edges.1 e' h1
    unfold edgN
    simp only [firN_nil, lasN_nil]
    omega
  · obtain ⟨j, hj, h3⟩ := mem_bEs _ he
    have hg : T.bars.getD j ([], []) ∈ T.bars := by
      rw [List.getD_eq_getElem?_getD, List.getElem?_eq_getElem hj]
      exact List.getElem_mem _
    have hB := hM.bars _ hg
    unfold barN at h3
    rcases List.mem_append.mp h3 with h3 | h3
    · obtain ⟨i, hi, rfl⟩ := List.mem_map.mp h3
      have := hB.ins.parts i hi
      simp only [lasN_nil]
      omega
    · obtain ⟨i, hi, rfl⟩ := List.mem_map.mp h3
      have := hB.outs.parts i hi
      simp only [firN_nil]
      omega
theorem on_hd {T : Task} {a x : Nat} (h : Way (lowE T) a (tlN T x)) : Way (lowE T) a (hdN T x) := by
  by_cases hx : x < T.parts.length
  · rw [tl_part hx] at h
    rw [hd_part hx]
    have hn := nst_pos T.futures x
    have e : lasN T.futures x = firN T.futures x + (nst T.futures x - 1) := by unfold lasN; omega
    rw [e]
    exact on_way hx (i := 0) (by omega) (by omega) h
  · unfold tlN at h
    unfold hdN
    rw [if_neg hx] at h ⊢
    exact h
theorem lift_way {T : Task} (hM : MayT T) {a b : Nat} (h : Way (lowE (lessT T)) a b) : Way (lowE T) (hdN T a) (hdN T b) := by
  induction h with
  | one e => exact on_hd (.one (lift_ed hM e))
  | more _ e ih => exact on_hd (.more ih (lift_ed hM e))
theorem less_acyc {T : Task} (h : LowOk T) : Acyc (lowE (lessT T)) := fun a ha => h.2.acyc _ (lift_way h.1 ha)
theorem less_may {T : Task} (h : MayT T) : MayT (lessT T) := by
  have hfew := h.few
  refine ⟨?_, h.time, h.parts, h.edges, ⟨fun f hf => by simp [lessT] at hf, by simp [lessT]⟩, h.bars⟩
  unfold ManyT lessT at *
  simp only [List.length_nil]
  omega
theorem wPs_nil (ps : List (Int × Int × Int)) : ∀ n, n ≤ ps.length → wPs [] ps n = (ps.take n).map fun e => e.2.2
  | 0, _ => rfl
  | n + 1, hn => by
    have hp : ps[n]? = some ps[n] := List.getElem?_eq_getElem (by omega)
    have ht : touL [] (n : Int) = [] := List.eq_nil_of_length_eq_zero (by have := touK_len [] (n : Int) 99; unfold touL; simp only [List.length_nil] at this; omega)
    rw [wPs, wPs_nil ps n (by omega), List.take_add_one, hp, List.map_append]
    refine congrArg (_ ++ ·) ?_
    unfold endsL
    rw [ht, List.getD_eq_getElem?_getD, hp]
    simp [stepW]
theorem less_W (T : Task) : lowW (lessT T) = (T.parts.map fun e => e.2.2) ++ List.replicate T.bars.length 1 := by
  unfold lowW lessT
  simp only
  rw [wPs_nil _ _ (Nat.le_refl _), List.take_length]
theorem less_ok {T : Task} (h : LowOk T) : LowOk (lessT T) := by
  have hM := less_may h.1
  have hlen := lowW_len hM
  have hfew := hM.few
  unfold ManyT at hfew
  have e1 : (lessT T).parts = T.parts := rfl
  have e2 : (lessT T).futures = [] := rfl
  have e3 : (lessT T).bars = T.bars := rfl
  rw [e1, e2, e3, List.length_nil] at hlen
  have hA := less_acyc h
  have hF := less_fits h.1
  refine ⟨hM, ?_, ?_, ?_, ?_, ?_, ?_, hA⟩
  · rw [e1, e2, e3] at hfew
    omega
  · have := lowE_len hM
    omega
  · intro z hz
    rw [less_W] at hz
    rcases List.mem_append.mp hz with hz | hz
    · obtain ⟨e, he, rfl⟩ := List.mem_map.mp hz
      have := h.1.parts e he
      unfold partOk at this
      omega
    · have := (List.mem_replicate.mp hz).2
      omega
  · rw [hlen]
    exact hF
  · intro e he hq
    have hf := hF e he
    refine hA e.1.toNat (.one ?_)
    unfold ed
    rw [show (((e.1.toNat : Nat) : Int), ((e.1.toNat : Nat) : Int)) = e from Prod.ext (by show ((e.1.toNat : Nat) : Int) = e.1; omega) (by show ((e.1.toNat : Nat) : Int) = e.2; omega)]
    exact he
  · have hn := (lift_sub h.1).nodup h.2.once
    exact List.Pairwise.of_map (liftE T) (fun a b h e => h (by rw [e])) hn
/-! The longest way -/
theorem far_ge {W : List Int} {E : List (Int × Int)} (hF : Fits W.length E) (hA : Acyc E) {x : Nat} (hx : x < W.length) : W.getD x 0 ≤ farAt W E x ∧ ∀ a, ed E a x → farAt W E a + W.getD x 0 ≤ farAt W E x := by
  have hl : ∀ a, a ∈ (List.range W.length).filter (fun a => decide (ed E a x)) ↔ ed E a x := fun a => by
    rw [List.mem_filter, List.mem_range, decide_eq_true_iff]
    exact ⟨fun h => h.2, fun h => ⟨(ed_lt hF h).1, h⟩⟩
  have hs := far_step hF hA hx hl
  obtain ⟨m0, m1, _⟩ := most_spec (((List.range W.length).filter (fun a => decide (ed E a x))).map (farAt W E))
  refine ⟨by omega, fun a ha => ?_⟩
  have := m1 _ (List.mem_map.mpr ⟨a, (hl a).mpr ha, rfl⟩)
  omega
theorem low_at {T : Task} {x i : Nat} (hx : x < T.parts.length) (hi : i < nst T.futures x) : (lowW T).getD (firN T.futures x + i) 0 = (endsL T.futures T.parts x).getD i 0 - befE (endsL T.futures T.parts x) i := by
  have h1 := firN_mono T.futures (show x + 1 ≤ T.parts.length by omega)
  have h2 : firN T.futures (x + 1) = firN T.futures x + nst T.futures x := rfl
  unfold lowW
  rw [List.getD_eq_getElem?_getD, List.getElem?_append_left (by rw [wPs_len]; omega), ← List.getD_eq_getElem?_getD]
  exact wPs_at hi _ hx
theorem far_part {T : Task} (h : LowOk T) {x : Nat} (hx : x < T.parts.length) {z : Int} (h0 : z + (lowW T).getD (firN T.futures x) 0 ≤ farAt (lowW T) (lowE T) (firN T.futures x)) : ∀ i, i < nst T.futures x → z + (endsL T.futures T.parts x).getD i 0 ≤ farAt (lowW T) (lowE T) (firN T.futures x + i)
  | 0, hi => by
    have := low_at hx hi
    rw [Nat.add_zero] at this ⊢
    rw [this] at h0
    unfold befE at h0
    simp only [if_true] at h0
    omega
  | i + 1, hi => by
    have ih := far_part h hx h0 i (by omega)
    have hlt : firN T.futures x + (i + 1) < (lowW T).length := by
      have h1 := firN_mono T.futures (show x + 1 ≤ T.parts.length by omega)
      have h2 : firN T.futures (x + 1) = firN T.futures x + nst T.futures x := rfl
      have h3 := firN_all h.1.parts h.1.futures
      rw [lowW_len h.1]
      omega
    have hg := (far_ge h.2.fits h.2.acyc hlt).2 _ (chain_ed hx (i := i) (by omega))
    rw [low_at hx hi] at hg
    unfold befE at hg
    rw [if_neg (by omega), show i + 1 - 1 = i by omega] at hg
    omega
theorem ends_end (fs ps : List (Int × Int × Int)) (x : Nat) : (endsL fs ps x).getD (nst fs x - 1) 0 = (ps.getD x (0, 0, 0)).2.2 := by
  unfold endsL
  rw [nst_eq, List.getD_eq_getElem?_getD, List.getElem?_append_right (by rw [List.length_map]; omega), List.length_map]
  simp
theorem less_at {T : Task} {x : Nat} : x < T.parts.length → (lowW (lessT T)).getD x 0 = (T.parts.getD x (0, 0, 0)).2.2 := fun hx => by
  rw [less_W, List.getD_eq_getElem?_getD, List.getElem?_append_left (by simpa using hx), List.getElem?_map, List.getElem?_eq_getElem hx, List.getD_eq_getElem?_getD, List.getElem?_eq_getElem hx]
  rfl
theorem low_bar {T : Task} (h : MayT T) {j : Nat} (hj : j < T.bars.length) : (lowW T).getD (firN T.futures T.parts.length + j) 0 = 1 := by
  unfold lowW
  rw [List.getD_eq_getElem?_getD, List.getElem?_append_right (by rw [wPs_len]; omega), wPs_len, List.getElem?_replicate, if_pos (by omega)]
  rfl
theorem less_bar {T : Task} {j : Nat} (hj : j < T.bars.length) : (lowW (lessT T)).getD (T.parts.length + j) 0 = 1 := by
  rw [less_W, List.getD_eq_getElem?_getD, List.getElem?_append_right (by simp), List.length_map, List.getElem?_replicate, if_pos (by omega)]
  rfl
theorem far_node {T : Task} (h : LowOk T) {x : Nat} (hx : x < T.parts.length + T.bars.length) {z : Int} (h0 : z + (lowW T).getD (tlN T x) 0 ≤ farAt (lowW T) (lowE T) (tlN T x)) : z + (lowW (lessT T)).getD x 0 ≤ farAt (lowW T) (lowE T) (hdN T x) := by
  by_cases hp : x < T.parts.length
  · rw [tl_part hp] at h0
    rw [hd_part hp, less_at hp]
    have hn := nst_pos T.futures x
    have := far_part h hp h0 (nst T.futures x - 1) (by omega)
    rw [ends_end] at this
    have e : lasN T.futures x = firN T.futures x + (nst T.futures x - 1) := by unfold lasN; omega
    rw [e]
    exact this
  · obtain ⟨j, rfl⟩ : ∃ j, x = T.parts.length + j := ⟨x - T.parts.length, by omega⟩
    rw [tl_bar, low_bar h.1 (by omega)] at h0
    rw [hd_bar, less_bar (by omega)]
    exact h0
theorem tl_lt {T : Task} (h : MayT T) {x : Nat} (hx : x < T.parts.length + T.bars.length) : tlN T x < (lowW T).length ∧ hdN T x < (lowW T).length := by
  have h3 := firN_all h.parts h.futures
  rw [lowW_len h]
  by_cases hp : x < T.parts.length
  · rw [tl_part hp, hd_part hp]
    have h1 := firN_mono T.futures (show x + 1 ≤ T.parts.length by omega)
    have h2 := lasN_eq T.futures x
    have h4 := fir_lt T.futures x
    omega
  · simp only [tlN, hdN, if_neg hp]
    omega
theorem far_up {T : Task} (h : LowOk T) : ∀ (r : List Nat) (b : Nat), Up (lowE (lessT T)) (b :: r) → In (T.parts.length + T.bars.length) (b :: r) → wsum (lowW (lessT T)) (b :: r) ≤ farAt (lowW T) (lowE T) (hdN T b)
  | [], b, _, hi => by
    have hb := hi b (by simp)
    have hg := (far_ge h.2.fits h.2.acyc (tl_lt h.1 hb).1).1
    have := far_node h hb (z := 0) (by omega)
    simp only [wsum, List.map_cons, List.map_nil, List.sum_cons, List.sum_nil]
    omega
  | a :: r, b, hu, hi => by
    have hb := hi b (by simp)
    have ih := far_up h r a hu.2 (fun x hx => hi x (by simp [hx]))
    have hg := (far_ge h.2.fits h.2.acyc (tl_lt h.1 hb).1).2 _ (lift_ed h.1 hu.1)
    have := far_node h hb hg
    simp only [wsum, List.map_cons, List.sum_cons] at ih ⊢
    omega
theorem less_long {T : Task} (h : LowOk T) : longV (lowW (lessT T)) (lowE (lessT T)) ≤ longV (lowW T) (lowE T) := by
  have h' := less_ok h
  unfold longV
  rw [if_pos h'.2, if_pos h.2]
  have hL := long_is h'.2.fits h'.2.acyc (fun z hz => by have := h'.2.work z hz; omega)
  have hlen := lowW_len h'.1
  have e1 : (lessT T).parts = T.parts := rfl
  have e2 : (lessT T).futures = [] := rfl
  have e3 : (lessT T).bars = T.bars := rfl
  rw [e1, e2, e3, List.length_nil] at hlen
  rcases hL.2 with ⟨_, h0⟩ | ⟨p, hp, hi, he⟩
  · rw [h0]
    exact (most_spec _).1
  · rw [← he]
    cases p with
    | nil => exact hp.elim
    | cons b r =>
      rw [hlen] at hi
      have hi' : In (T.parts.length + T.bars.length) (b :: r) := fun x hx => by have := hi x hx; omega
      refine Int.le_trans (far_up h r b hp hi') ?_
      have hlt := (tl_lt h.1 (hi' b (by simp))).2
      refine (most_spec _).2.1 _ ?_
      have hl2 : hdN T b < (farK (lowW T) (lowE T) (lowW T).length).length := by rw [farK_length]; exact hlt
      unfold farAt
      rw [List.getD_eq_getElem?_getD, List.getElem?_eq_getElem hl2]
      exact List.getElem_mem hl2
theorem less_total {T : Task} (h : LowOk T) : totalV (lowW (lessT T)) (lowE (lessT T)) = totalV (lowW T) (lowE T) := by
  unfold totalV
  rw [if_pos (less_ok h).2, if_pos h.2, lowW_sum, lowW_sum]
  rfl
theorem less_len {T : Task} (h : LowOk T) : (lowW T).length = (lowW (lessT T)).length + T.futures.length := by
  have h1 := lowW_len h.1
  have h2 := lowW_len (less_may h.1)
  have e1 : (lessT T).parts = T.parts := rfl
  have e2 : (lessT T).futures = [] := rfl
  have e3 : (lessT T).bars = T.bars := rfl
  rw [e1, e2, e3, List.length_nil] at h2
  omega
end Go.Proofs.YtfahabphncmbfaaGreatDoor
set_option linter.unusedVariables false
set_option linter.unusedSimpArgs false
namespace Go.Proofs.YtfahabphncmbfaaGreatDoor
open Go.RowKit

theorem ownI_fresh {w : World} {g base : Nat} (hg : w.heap[g]? = some (.cells #[] 3 (0, 0))) (hb : base ≤ g) : OwnI w base (.slice (some ⟨g, 0, none⟩) 0 0) [] := ⟨rfl, .inr ⟨g, 0, #[], rfl, hb, hg, Nat.le_refl _, Nat.zero_le _, rfl, rfl⟩⟩
/-- A task's ends, one by one. -/
theorem ends_step {T : Task} {x j k : Nat} (h : (touL T.futures (x : Int))[j]? = some k) : (stepW 0 (endsL T.futures T.parts x)).take (j + 1) = (stepW 0 (endsL T.futures T.parts x)).take j ++ [(futAt T.futures k).2.2 - befE (endsL T.futures T.parts x) j] ∧ befE (endsL T.futures T.parts x) (j + 1) = (futAt T.futures k).2.2 := by
  have hj := (List.getElem?_eq_some_iff.mp h).1
  have he := ends_at7 (T := T) (uN := x) hj
  rw [(List.getElem?_eq_some_iff.mp h).2] at he
  refine ⟨stepW_take 0 _ j _ he, ?_⟩
  unfold befE
  rw [if_neg (by omega), Nat.add_sub_cancel, List.getD_eq_getElem?_getD, he]
  rfl
theorem ends_final {T : Task} (x : Nat) : stepW 0 (endsL T.futures T.parts x) = (stepW 0 (endsL T.futures T.parts x)).take (touL T.futures (x : Int)).length ++ [(T.parts.getD x (0, 0, 0)).2.2 - befE (endsL T.futures T.parts x) (touL T.futures (x : Int)).length] := by
  have hl := endsL_len T.futures T.parts x
  have hn := nst_eq T.futures x
  have he : (endsL T.futures T.parts x)[(touL T.futures (x : Int)).length]? = some (T.parts.getD x (0, 0, 0)).2.2 := by
    unfold endsL
    rw [List.getElem?_append_right (by rw [List.length_map]; exact Nat.le_refl _), List.length_map, Nat.sub_self]
    rfl
  have h := stepW_take 0 _ _ _ he
  rw [List.take_of_length_le (by rw [stepW_len]; omega)] at h
  exact h
theorem bef_bound {T : Task} (hM : MayT T) {x : Nat} (hx : x < T.parts.length) (j : Nat) : 0 ≤ befE (endsL T.futures T.parts x) j ∧ befE (endsL T.futures T.parts x) j ≤ 1000 := by
  unfold befE
  split
  · omega
  · by_cases h : j - 1 < (endsL T.futures T.parts x).length
    · rw [List.getD_eq_getElem?_getD, List.getElem?_eq_getElem h]
      have hm := List.getElem_mem h
      have h1 := (ends_rise hM.parts hM.futures hx).2 _ hm
      refine ⟨Int.le_of_lt h1, ?_⟩
      have hw : ∀ e ∈ endsL T.futures T.parts x, e ≤ 1000 := by
        intro e he
        unfold endsL at he
        have hp := hM.parts _ (List.getElem_mem hx)
        unfold partOk at hp
        have hpd : (T.parts.getD x (0, 0, 0)).2.2 = T.parts[x].2.2 := by rw [List.getD_eq_getElem?_getD, List.getElem?_eq_getElem hx]; rfl
        rcases List.mem_append.mp he with he | he
        · obtain ⟨k, hk, rfl⟩ := List.mem_map.mp he
          have := (mem_touK.mp hk).2.2.2
          omega
        · obtain rfl : e = _ := by simpa using he
          rw [List.getD_eq_getElem?_getD] at hpd
          rw [hpd]
          omega
      exact hw _ hm
    · rw [List.getD_eq_getElem?_getD, List.getElem?_eq_none (by omega)]
      decide
theorem fut_bound {T : Task} (hM : MayT T) {k : Nat} (hk : k < T.futures.length) : 0 ≤ (futAt T.futures k).2.2 ∧ (futAt T.futures k).2.2 ≤ 1000 := by
  have hf := hM.futures.each _ (futAt_mem hk)
  have h1 := hf.first
  obtain ⟨uN, huN⟩ : ∃ q : Nat, (futAt T.futures k).2.1 = q := ⟨(futAt T.futures k).2.1.toNat, by have := hf.user.1; omega⟩
  have hu : uN < T.parts.length := by have := hf.user.2; omega
  have h2 := hf.last
  rw [huN, Int.toNat_natCast] at h2
  have h3 := h2 _ (List.getElem?_eq_getElem hu)
  have hp := hM.parts _ (List.getElem_mem hu)
  unfold partOk at hp
  omega
theorem fut_parts' {T : Task} (hM : MayT T) {k : Nat} (hk : k < T.futures.length) : ∃ mN uN : Nat, futAt T.futures k = ((mN : Int), (uN : Int), (futAt T.futures k).2.2) ∧ mN < T.parts.length ∧ uN < T.parts.length ∧ mN ≠ uN := by
  have hf := hM.futures.each _ (futAt_mem hk)
  obtain ⟨mN, hmN⟩ : ∃ q : Nat, (futAt T.futures k).1 = q := ⟨(futAt T.futures k).1.toNat, by have := hf.maker.1; omega⟩
  obtain ⟨uN, huN⟩ : ∃ q : Nat, (futAt T.futures k).2.1 = q := ⟨(futAt T.futures k).2.1.toNat, by have := hf.user.1; omega⟩
  have h1 := hf.maker.2
  have h2 := hf.user.2
  have h3 := hf.apart
  rw [hmN] at h1 h3
  rw [huN] at h2 h3
  exact ⟨mN, uN, by rw [← hmN, ← huN], by omega, by omega, by omega⟩
theorem beg_at {T : Task} (hM : MayT T) {k mN uN : Nat} {A : Int} (hk : k < T.futures.length) (hf : futAt T.futures k = ((mN : Int), (uN : Int), A)) : ∃ q, q < (touL T.futures (uN : Int)).length ∧ begN T.futures k = firN T.futures uN + (q + 1) ∧ (touL T.futures (uN : Int))[q]? = some k := by
  have hmem : k ∈ touL T.futures (uN : Int) := by
    have := fut_mem hM.parts hM.futures hk
    rwa [hf] at this
  have hq := List.idxOf_lt_length_iff.mpr hmem
  exact ⟨_, hq, beg_eq hf, by rw [List.getElem?_eq_getElem hq, List.getElem_idxOf hq]⟩
/-- A task's box, by its row; lists that grow leave it. -/
structure BxQ (w : World) (s : Sh) (T : Task) (w' : World) : Prop where
  bel : Below w.heap.size w w'
  row : w'.heap[w.heap.size]? = some (.cells #[.int .i64 T.period, .int .i64 T.deadline, .slice s.P s.np s.pc, .slice s.E s.ne s.ec, .slice s.F s.nf s.fc, .slice s.R s.nr s.rc] 64 (0, 0))
section
variable {w w1 w2 : World} {s : Sh} {T : Task}
theorem BxQ.next (h : BxQ w s T w1) (hb : Below w1.heap.size w1 w2) : BxQ w s T w2 := ⟨h.bel.trans (hb.mono h.bel.size), by rw [hb.block _ (Array.getElem?_eq_some_iff.1 h.row).1]; exact h.row⟩
theorem BxQ.rx {t : TypeId} {row : Option Nat} (h : BxQ w s T w1) (hr : RXl t w.heap.size row w1 w2) (ht : 64 ≠ t) : BxQ w s T w2 := ⟨h.bel.trans (hr.below h.bel.size), hr.heap h.row ht⟩
theorem BxQ.start (w : World) (s : Sh) (T : Task) : BxQ w s T (w.alloc (.cells #[.int .i64 T.period, .int .i64 T.deadline, .slice s.P s.np s.pc, .slice s.E s.ne s.ec, .slice s.F s.nf s.fc, .slice s.R s.nr s.rc] 64)) := ⟨below_alloc _, heap_alloc_new w _⟩
theorem BxQ.c (h : BxQ w s T w1) : CellsD w1 s T.period T.deadline w.heap.size := by
  have d0 := cell_of_row w1 _ 0 _ _ _ h.row
  have d1 := cell_of_row w1 _ 1 _ _ _ h.row
  have d2 := cell_of_row w1 _ 2 _ _ _ h.row
  have d3 := cell_of_row w1 _ 3 _ _ _ h.row
  have d4 := cell_of_row w1 _ 4 _ _ _ h.row
  have d5 := cell_of_row w1 _ 5 _ _ _ h.row
  exact ⟨d0, d1, d2, d3, d4, d5⟩
end
theorem ownI_row {w : World} {b n : Nat} {v : Value} {zs : List Int} (h : OwnI w b v zs) (hn : zs.length = n) : w.ownsRow b 3 1 v n (zs.map (Value.int .i64)) := by rw [← hn]; exact h
theorem row_ownI {w : World} {b n : Nat} {v : Value} {zs : List Int} {z : Int} (h : w.ownsRow b 3 1 v (n + 1) (zs.map (Value.int .i64) ++ [.int .i64 z])) (hn : zs.length = n) : OwnI w b v (zs ++ [z]) := by
  unfold OwnI
  rw [List.length_append, List.map_append, List.length_singleton, hn]
  exact h
section
variable {s : Sh} {T : Task}
set_option maxRecDepth 100000 in
set_option maxHeartbeats 8000000 in
theorem rsteps_any (w : World) (x : Nat) (hD : IsD w s T) (hM : MayT T) (hx : x < T.parts.length) :
    Calls Tryz.prog 176 #[s.arg T.period T.deadline, .int .i64 (x : Int)] w (GotOwn (stepW 0 (endsL T.futures T.parts x)) w) := by
  have HS := Lib.hid (BxQ.start w s T)
  have HD := Lib.hid hD
  have HM := Lib.hid hM
  have HX := Lib.hid hx
  have HPL := Lib.hid hD.t.hp
  have HFL := Lib.hid hD.t.hf
  have hnt : (touL T.futures (x : Int)).length ≤ 400 := by have h1 := touK_len T.futures (x : Int) 99; have h2 := hD.few.nf; unfold touL; omega
  obtain ⟨nt, hntE⟩ : ∃ nt, nt = (touL T.futures (x : Int)).length := ⟨_, rfl⟩
  rw [← hntE] at hnt
  have HNT := Lib.hid hntE
  have C := Lib.hid (fun W (h : IsD W s T) => dtouches_any (P := s.P) (np := s.np) (pc := s.pc) (E := s.E) (ne := s.ne) (ec := s.ec) (F := s.F) (nf := s.nf) (fc := s.fc) (R := s.R) (nr := s.nr) (rc := s.rc) (p := T.period) (q := T.deadline) (x : Int) T.futures W h.t.hf (by have h1 := h.t.hf; have h2 := h.few.nf; omega) h.t.futures)
  have hxn : x < s.np := by rw [← hD.t.hp]; exact hx
  have hnf4 : s.nf ≤ 400 := by have h1 := hD.few.nf; have h2 := hD.t.hf; omega
  obtain ⟨P, np, pc, E, ne, ec, Fu, nf, fc, R, nr, rc⟩ := s
  simp only at HS C HPL HFL hxn hnf4
  obtain ⟨w0, hw0⟩ : ∃ w0, w0 = w.alloc (.cells #[.int .i64 T.period, .int .i64 T.deadline, .slice P np pc, .slice E ne ec, .slice Fu nf fc, .slice R nr rc] 64) := ⟨_, rfl⟩
  rw [← hw0] at HS
  obtain ⟨w1, hw1⟩ : ∃ w1, w1 = w0.alloc (.cells #[] 3) := ⟨_, rfl⟩
  have hb1 : Below w0.heap.size w0 w1 := by rw [hw1]; exact below_alloc _
  have hn1 : w1.heap[w0.heap.size]? = some (.cells #[] 3 (0, 0)) := by rw [hw1]; exact heap_alloc_new w0 _
  have hs1 : w0.heap.size < w1.heap.size := by rw [hw1]; simp
  have B1 := Lib.hid (HS.out.next hb1)
  have O1 : Hid (OwnI w1 w.heap.size (.slice (some ⟨w0.heap.size, 0, none⟩) 0 0) []) := Lib.hid (ownI_fresh hn1 HS.out.bel.size)
  obtain ⟨g0, hg0⟩ : ∃ g, g = w.heap.size + 1 := ⟨_, rfl⟩
  have hs0 : w0.heap.size = g0 := by rw [hw0, hg0]; simp
  rw [hs0] at O1 hs1
  have HG1 := Lib.hid hs1
  have HISD := Lib.hid (fun W (h : Below w.heap.size w W) => HD.out.below h)
  obtain ⟨c0, c1, c2, c3, c4, c5⟩ := B1.out.c
  simp only at c2 c3 c4 c5
  clear hD hM hx hntE hb1 hn1 hs1
  go_enter Tryz.func176, Tryz.ntmps176
  go_wp2_with fail
  rw [← hw0, ← hw1, ← hg0]
  clear hw0 hw1 hg0 hs0
  refine (C.out _ (HISD.out _ B1.out.bel)).mono ?_
  rintro e w2 ⟨A, c, rfl, hO, b2⟩
  have B2 := Lib.hid (B1.out.next b2)
  have O2 := Lib.hid (own_below O1.out b2 : OwnI w2 w.heap.size (.slice (some ⟨g0, 0, none⟩) 0 0) [])
  have S2 : Hid (Side w2 w.heap.size (.slice (some ⟨g0, 0, none⟩) 0 0) (.slice A (nums (touL T.futures (x : Int))).length c) (nums (touL T.futures (x : Int)))) := Lib.hid ⟨own_less hO B1.out.bel.size, fun k hk e => by
    have h1 := (row_lt hO k hk).1
    have h2 : k = g0 := by injection e with e; exact e.symm
    have := HG1.out
    omega⟩
  rw [nums_length, ← HNT.out] at S2 ⊢
  clear hO b2 C HS c0 c1 c2 c3 c4 c5 B1 O1
  go_wp2
  go_loopw [5, 6, 8] (fun v dn i wr => ∃ (j c' : Nat) (A' : Option Addr) (dz : Int), j ≤ nt ∧ i = .int .i64 (j : Int) ∧ v = .slice A' j c' ∧ dn = .int .i64 dz ∧ Hid (dz = befE (endsL T.futures T.parts x) j) ∧ Hid (OwnI wr w.heap.size (.slice A' j c') ((stepW 0 (endsL T.futures T.parts x)).take j)) ∧ Hid (BxQ w ⟨P, np, pc, E, ne, ec, Fu, nf, fc, R, nr, rc⟩ T wr ∧ Side wr w.heap.size (.slice A' j c') (.slice A nt c) (nums (touL T.futures (x : Int))))) (fun _ _ i _ => nt - (intOf i).toNat)
  case atStart => exact ⟨0, 0, some ⟨g0, 0, none⟩, 0, Nat.zero_le _, rfl, rfl, rfl, Lib.hid rfl, O2, Lib.hid ⟨B2.out, S2.out⟩⟩
  case round =>
    obtain ⟨j, c', A', dz, hj, rfl, rfl, rfl, HDZ, HOJ, HB⟩ := hrel
    clear B2 O2 S2
    have hdz := bef_bound HM.out HX.out j
    rw [← HDZ.out] at hdz
    obtain ⟨hdz0, hdz1⟩ := hdz
    obtain ⟨c0, c1, c2, c3, c4, c5⟩ := HB.out.1.c
    simp only at c2 c3 c4 c5
    have hlj : ((stepW 0 (endsL T.futures T.parts x)).take j).length = j := by rw [List.length_take, stepW_len, endsL_len, nst_eq, ← HNT.out]; omega
    have HLJ := Lib.hid hlj
    by_cases hlt : j < nt
    · obtain ⟨k, hk⟩ : ∃ k, (touL T.futures (x : Int))[j]? = some k := ⟨_, List.getElem?_eq_getElem (by rw [← HNT.out]; exact hlt)⟩
      have hkf : k < nf := by have := touL_lt hk; rw [HFL.out] at this; exact this
      obtain ⟨hst, hbe⟩ := ends_step hk
      rw [← HDZ.out] at hst
      obtain ⟨gb, go, ez, eA, hgb, hez, hq⟩ := (OwnI.ints HB.out.2.own).at_ (k := j) (by rw [nums_length, ← HNT.out]; exact hlt)
      obtain ⟨k2, rfl, hk2⟩ := nums_atD hez
      obtain rfl : k = k2 := by rw [hk] at hk2; exact Option.some.inj hk2
      subst eA
      obtain ⟨fb, fo, f1, f2, f3, hFe, hfb, hft, d1, d2, d3⟩ := (HISD.out _ HB.out.1.bel).t.futures.at_ (k := k) (by rw [HFL.out]; exact hkf)
      simp only at hFe
      subst hFe
      have hfa : (futAt T.futures k).2.2 = f3 := by unfold futAt; rw [List.getD_eq_getElem?_getD, hft]; rfl
      have hfb3 := fut_bound HM.out (k := k) (by rw [HFL.out]; exact hkf)
      rw [hfa] at hst hbe hfb3
      obtain ⟨hf0, hf1⟩ := hfb3
      have HST := Lib.hid hst
      have HBE := Lib.hid hbe
      clear hk hk2 hez hgb hfb hft hfa hst hbe d1 d2 hlj
      go_wp2
      go_quiet (fail)
      rename_i nq
      have hbd : Below wr.heap.size wr (wr.drewN nq) := below_drewN (Below.refl _ _) _
      obtain ⟨wd, hwd⟩ : ∃ wd, wd = wr.drewN nq := ⟨_, rfl⟩
      rw [← hwd] at hbd ⊢
      have HBd := Lib.hid (And.intro (HB.out.1.next hbd) (HB.out.2.below hbd))
      have HOd := Lib.hid (own_below HOJ.out hbd : OwnI wd w.heap.size (.slice A' j c') ((stepW 0 (endsL T.futures T.parts x)).take j))
      have hws := HBd.out.1.bel.size
      clear hwd hbd
      go_wp2_with (at_builtin; refine wpList_pushX rfl _ _ 3 22 1 8 (.int .i64 0) Tryz.underlying22 int_cell_info rfl (by decide) (by decide) rfl rfl wd w.heap.size j _ _ [.int .i64 (f3 - dz)] (ownI_row HOd.out HLJ.out) rfl (by intro x hx; simp at hx; subst hx; rfl) (by omega) hws rfl rfl ?_; intro A4 c4' w4 HO4 HR4 HAT; (have HO4' := Lib.hid (row_ownI HO4 HLJ.out)); (have HB4' := Lib.hid (And.intro (HBd.out.1.rx HR4 (by decide)) (HBd.out.2.grew HR4 HAT))); clear HO4 HR4 HAT)
      go_roundw
      case rel => exact ⟨j + 1, c4', A4, f3, hlt, by go_num, rfl, rfl, Lib.hid HBE.out.symm, Lib.hid (by rw [HST.out]; exact HO4'.out), HB4'⟩
      case measure => simp [intOf]; omega
    · obtain rfl : nt = j := by omega
      obtain ⟨pb, po, p1, p2, p3, hPe, hpb, hpt, d1, d2, d3⟩ := (HISD.out _ HB.out.1.bel).t.parts.at_ (k := x) (by rw [HPL.out]; exact hxn)
      simp only at hPe
      subst hPe
      have hpd : (T.parts.getD x (0, 0, 0)).2.2 = p3 := by rw [List.getD_eq_getElem?_getD, hpt]; rfl
      have hpb3 := HM.out.parts _ (List.mem_of_getElem? hpt)
      unfold partOk at hpb3
      simp only at hpb3
      obtain ⟨_, _, _, _, hp0, hp1⟩ := hpb3
      have hfin := ends_final (T := T) x
      rw [hpd, ← HNT.out, ← HDZ.out] at hfin
      have HFIN := Lib.hid hfin
      have HEN : Hid ((stepW 0 (endsL T.futures T.parts x)).length = nt + 1) := Lib.hid (by rw [stepW_len, endsL_len, nst_eq, ← HNT.out])
      have hws := HB.out.1.bel.size
      clear hpd hpt hfin d1 d2 hlj hpb
      go_wp2_with (at_builtin; refine wpList_pushX rfl _ _ 3 22 1 8 (.int .i64 0) Tryz.underlying22 int_cell_info rfl (by decide) (by decide) rfl rfl wr w.heap.size nt _ _ [.int .i64 (p3 - dz)] (ownI_row HOJ.out HLJ.out) rfl (by intro x hx; simp at hx; subst hx; rfl) (by omega) hws rfl rfl ?_; intro A4 c4' w4 HO4 HR4 HAT; (have HO4' := Lib.hid (row_ownI HO4 HLJ.out)); (have HB4' := Lib.hid (HB.out.1.rx HR4 (by decide))); clear HO4 HR4 HAT)
      go_ret
      refine ⟨A4, c4', by rw [HEN.out]; rfl, ?_, HB4'.out.bel⟩
      rw [HEN.out, HFIN.out]
      exact HO4'.out
theorem firN_small {T : Task} (hM : MayT T) {j : Nat} (hj : j ≤ T.parts.length) : firN T.futures j ≤ 36 := by
  have h1 := firN_mono T.futures hj
  have h2 := firN_all hM.parts hM.futures
  have h3 := hM.few
  unfold ManyT at h3
  omega
set_option maxRecDepth 100000 in
set_option maxHeartbeats 8000000 in
theorem rfirst_any (w : World) (n : Nat) (hD : IsD w s T) (hM : MayT T) (hn : n ≤ T.parts.length) :
    Calls Tryz.prog 177 #[s.arg T.period T.deadline, .int .i64 (n : Int)] w fun e w' => e = .returned (.int .i64 (firN T.futures n : Int)) ∧ Below w.heap.size w w' := by
  have HS := Lib.hid (Bx1T.start hD.t)
  have HD := Lib.hid hD
  have HM := Lib.hid hM
  have HN := Lib.hid hn
  have HISD := Lib.hid (fun W (h : Below w.heap.size w W) => HD.out.below h)
  have hn4 : n ≤ 400 := by have := hD.few.np; omega
  obtain ⟨P, np, pc, E, ne, ec, Fu, nf, fc, R, nr, rc⟩ := s
  simp only at HS
  clear hD hM hn
  go_enter Tryz.func177, Tryz.ntmps177
  go_wp2
  go_loopw [5, 6] (fun v i wr => ∃ j : Nat, j ≤ n ∧ i = .int .i64 (j : Int) ∧ v = .int .i64 (firN T.futures j : Int) ∧ Hid (Bx1T w ⟨P, np, pc, E, ne, ec, Fu, nf, fc, R, nr, rc⟩ T wr)) (fun _ i _ => n - (intOf i).toNat)
  case atStart => exact ⟨0, Nat.zero_le _, rfl, rfl, HS⟩
  case round =>
    obtain ⟨j, hj, rfl, rfl, HB⟩ := hrel
    clear HS
    by_cases hlt : j < n
    · obtain ⟨c0, c1, c2, c3, c4, c5⟩ := HB.out.c
      simp only at c2 c3 c4 c5
      have hf1 := firN_small HM.out (j := j) (by have := HN.out; omega)
      have hf2 := firN_small HM.out (j := j + 1) (by have := HN.out; omega)
      obtain ⟨f0, hf0⟩ : ∃ f, f = firN T.futures j := ⟨_, rfl⟩
      obtain ⟨k0, hk0⟩ : ∃ k, (stepW 0 (endsL T.futures T.parts j)).length = k := ⟨_, rfl⟩
      have hfs : firN T.futures (j + 1) = f0 + k0 := by rw [firN, hf0, ← hk0, stepW_len, endsL_len]
      have HFS := Lib.hid hfs
      have HK0 := Lib.hid hk0
      rw [← hf0] at hf1 ⊢
      rw [hfs] at hf2
      clear hf0 hfs hk0
      go_wp2_with fail
      refine (rsteps_any wr j (HISD.out _ HB.out.bel) HM.out (by have := HN.out; omega)).mono ?_
      rintro e w1 ⟨A1, c1', rfl, _, b1⟩
      rw [HK0.out]
      have HB1 := Lib.hid (HB.out.next b1)
      clear b1 c0 c1 c2 c3 c4 c5 HB
      go_wp2
      go_roundw
      case rel => exact ⟨j + 1, by omega, by go_num, by rw [HFS.out]; first | rfl | go_num, HB1⟩
      case measure => simp [intOf]; omega
    · obtain rfl : n = j := by omega
      go_wp2
      go_ret
      exact ⟨rfl, HB.out.bel⟩
set_option maxRecDepth 100000 in
theorem rfinal_any (w : World) (x : Nat) (hD : IsD w s T) (hM : MayT T) (hx : x < T.parts.length) :
    Calls Tryz.prog 178 #[s.arg T.period T.deadline, .int .i64 (x : Int)] w fun e w' => e = .returned (.int .i64 (lasN T.futures x : Int)) ∧ Below w.heap.size w w' := by
  have HS := Lib.hid (Bx1T.start hD.t)
  have HD := Lib.hid hD
  have HISD := Lib.hid (fun W (h : Below w.heap.size w W) => HD.out.below h)
  have hx4 : x ≤ 400 := by have := hD.few.np; omega
  have hf1 := firN_small hM (j := x + 1) hx
  have hl := lasN_eq T.futures x
  obtain ⟨f1, hfe⟩ : ∃ f, firN T.futures (x + 1) = f := ⟨_, rfl⟩
  have C := Lib.hid (fun W (h : IsD W s T) => rfirst_any W (x + 1) h hM hx)
  rw [hfe] at C hf1 hl
  obtain ⟨l0, hle⟩ : ∃ l, lasN T.futures x = l := ⟨_, rfl⟩
  rw [hle] at hl ⊢
  obtain ⟨P, np, pc, E, ne, ec, Fu, nf, fc, R, nr, rc⟩ := s
  simp only at HS
  obtain ⟨c0, c1, c2, c3, c4, c5⟩ := HS.out.c
  simp only at c2 c3 c4 c5
  have hl2 : (f1 : Int) - 1 = (l0 : Int) := by omega
  clear hD hM hx hfe hle
  obtain ⟨w0, hw0⟩ : ∃ w0, w0 = w.alloc (.cells #[.int .i64 T.period, .int .i64 T.deadline, .slice P np pc, .slice E ne ec, .slice Fu nf fc, .slice R nr rc] 64) := ⟨_, rfl⟩
  rw [← hw0] at HS c0 c1 c2 c3 c4 c5
  go_enter Tryz.func178, Tryz.ntmps178
  go_wp2_with fail
  rw [← hw0]
  clear hw0
  refine (C.out _ (HISD.out _ HS.out.bel)).mono ?_
  rintro e w1 ⟨rfl, b1⟩
  have HB1 := Lib.hid (HS.out.next b1)
  clear b1 c0 c1 c2 c3 c4 c5
  go_wp2
  go_ret
  exact ⟨by first | rfl | (rw [hl2]), HB1.out.bel⟩
end
end Go.Proofs.YtfahabphncmbfaaGreatDoor
set_option linter.unusedVariables false
set_option linter.unusedSimpArgs false
namespace Go.Proofs.YtfahabphncmbfaaGreatDoor
open Go.RowKit

/-- A task's box, and a future's. -/
structure BxBeg (w : World) (s : Sh) (T : Task) (a b c : Int) (w' : World) : Prop where
  bel : Below w.heap.size w w'
  cd : CellsD w' s T.period T.deadline w.heap.size
  row : w'.heap[w.heap.size + 1]? = some (.cells #[.int .i64 a, .int .i64 b, .int .i64 c] 220 (0, 0))
section
variable {w w1 w2 : World} {s : Sh} {T : Task} {a b c : Int}
theorem BxBeg.next (h : BxBeg w s T a b c w1) (hb : Below w1.heap.size w1 w2) : BxBeg w s T a b c w2 := ⟨h.bel.trans (hb.mono h.bel.size), h.cd.next hb, by rw [hb.block _ (Array.getElem?_eq_some_iff.1 h.row).1]; exact h.row⟩
theorem BxBeg.f1 (h : BxBeg w s T a b c w1) : w1.cell? ⟨w.heap.size + 1, 1, none⟩ = some (.int .i64 b) := by rw [cell_of_row _ _ _ _ _ _ h.row]; rfl
theorem BxBeg.f2 (h : BxBeg w s T a b c w1) : w1.cell? ⟨w.heap.size + 1, 2, none⟩ = some (.int .i64 c) := by rw [cell_of_row _ _ _ _ _ _ h.row]; rfl
theorem BxBeg.start {w : World} (hd : IsT w w.heap.size s T) (a b c : Int) : BxBeg w s T a b c ((w.alloc (.cells #[.int .i64 T.period, .int .i64 T.deadline, .slice s.P s.np s.pc, .slice s.E s.ne s.ec, .slice s.F s.nf s.fc, .slice s.R s.nr s.rc] 64)).alloc (.cells #[.int .i64 a, .int .i64 b, .int .i64 c] 220)) := by
  have h1 := Bx1T.start hd
  obtain ⟨w0, hw0⟩ : ∃ w0, w0 = w.alloc (.cells #[.int .i64 T.period, .int .i64 T.deadline, .slice s.P s.np s.pc, .slice s.E s.ne s.ec, .slice s.F s.nf s.fc, .slice s.R s.nr s.rc] 64) := ⟨_, rfl⟩
  rw [← hw0] at h1 ⊢
  have hs : w0.heap.size = w.heap.size + 1 := by rw [hw0]; simp
  have h2 := h1.next (below_alloc (w := w0) (.cells #[.int .i64 a, .int .i64 b, .int .i64 c] 220))
  have h3 := heap_alloc_new w0 (.cells #[.int .i64 a, .int .i64 b, .int .i64 c] 220)
  rw [hs] at h3
  exact ⟨h2.bel, h2.c, h3⟩
end
section
variable {s : Sh} {T : Task}
set_option maxRecDepth 100000 in
set_option maxHeartbeats 8000000 in
theorem rbegin_any (w : World) (k : Nat) (hD : IsD w s T) (hM : MayT T) (hk : k < T.futures.length) :
    Calls Tryz.prog 179 #[s.arg T.period T.deadline, .agg #[.int .i64 (futAt T.futures k).1, .int .i64 (futAt T.futures k).2.1, .int .i64 (futAt T.futures k).2.2]] w fun e w' => e = .returned (.int .i64 (begN T.futures k : Int)) ∧ Below w.heap.size w w' := by
  obtain ⟨mN, uN, hf, hm, hu, _⟩ := fut_parts' hM hk
  obtain ⟨q, hq, hbe, htq⟩ := beg_at hM hk hf
  obtain ⟨Av, hAv⟩ : ∃ a, a = (futAt T.futures k).2.2 := ⟨_, rfl⟩
  rw [← hAv] at hf ⊢
  rw [hf]
  simp only
  have HS := Lib.hid (BxBeg.start hD.t (mN : Int) (uN : Int) Av)
  have HD := Lib.hid hD
  have HISD := Lib.hid (fun W (h : Below w.heap.size w W) => HD.out.below h)
  have HFL := Lib.hid hD.t.hf
  have HQ := Lib.hid htq
  have HAV := Lib.hid hAv
  have HR := Lib.hid (touL_rises7 (x := (uN : Int)) hM.futures.once)
  have CF := Lib.hid (fun W (h : IsD W s T) => rfirst_any W uN h hM (Nat.le_of_lt hu))
  have hfs := firN_small hM (j := uN) (Nat.le_of_lt hu)
  obtain ⟨f0, hf0⟩ : ∃ f, firN T.futures uN = f := ⟨_, rfl⟩
  rw [hf0] at CF hfs hbe
  obtain ⟨bg, hbg⟩ : ∃ b, begN T.futures k = b := ⟨_, rfl⟩
  rw [hbg] at hbe ⊢
  have hnt : (touL T.futures (uN : Int)).length ≤ 400 := by have h1 := touK_len T.futures (uN : Int) 99; have h2 := hD.few.nf; unfold touL; omega
  obtain ⟨nt, hntE⟩ : ∃ nt, nt = (touL T.futures (uN : Int)).length := ⟨_, rfl⟩
  rw [← hntE] at hnt hq
  have HNT := Lib.hid hntE
  have C := Lib.hid (fun W (h : IsD W s T) => dtouches_any (P := s.P) (np := s.np) (pc := s.pc) (E := s.E) (ne := s.ne) (ec := s.ec) (F := s.F) (nf := s.nf) (fc := s.fc) (R := s.R) (nr := s.nr) (rc := s.rc) (p := T.period) (q := T.deadline) (uN : Int) T.futures W h.t.hf (by have h1 := h.t.hf; have h2 := h.few.nf; omega) h.t.futures)
  have hnf4 : s.nf ≤ 400 := by have h1 := hD.few.nf; have h2 := hD.t.hf; omega
  have hu4 : uN ≤ 400 := by have h1 := hD.few.np; omega
  obtain ⟨P, np, pc, E, ne, ec, Fu, nf, fc, R, nr, rc⟩ := s
  simp only at HS C HFL hnf4
  obtain ⟨w0, hw0⟩ : ∃ w0, w0 = (w.alloc (.cells #[.int .i64 T.period, .int .i64 T.deadline, .slice P np pc, .slice E ne ec, .slice Fu nf fc, .slice R nr rc] 64)).alloc (.cells #[.int .i64 (mN : Int), .int .i64 (uN : Int), .int .i64 Av] 220) := ⟨_, rfl⟩
  rw [← hw0] at HS
  obtain ⟨c0, c1, c2, c3, c4, c5⟩ := HS.out.cd
  simp only at c2 c3 c4 c5
  have r1 := HS.out.f1
  have r2 := HS.out.f2
  clear hD hM hk hf hm hu htq hAv hf0 hbg hntE
  go_enter Tryz.func179, Tryz.ntmps179
  go_wp2_with fail
  rw [← hw0]
  clear hw0
  refine (C.out _ (HISD.out _ HS.out.bel)).mono ?_
  rintro e w2 ⟨A, c, rfl, hO, b2⟩
  have B2 := Lib.hid (HS.out.next b2)
  have L2 := Lib.hid (OwnI.ints hO)
  rw [nums_length, ← HNT.out]
  clear hO b2 C HS c0 c1 c2 c3 c4 c5 r1 r2
  go_wp2
  go_loopw [6] (fun i wr => ∃ j : Nat, j ≤ q ∧ i = .int .i64 (j : Int) ∧ Hid (BxBeg w ⟨P, np, pc, E, ne, ec, Fu, nf, fc, R, nr, rc⟩ T (mN : Int) (uN : Int) Av wr ∧ Ints wr wr.heap.size A (nums (touL T.futures (uN : Int))))) (fun i _ => nt - (intOf i).toNat)
  case atStart => exact ⟨0, Nat.zero_le _, rfl, Lib.hid ⟨B2.out, L2.out⟩⟩
  case round =>
    obtain ⟨j, hj, rfl, HB⟩ := hrel
    clear B2 L2
    have hlt : j < nt := by omega
    obtain ⟨c0, c1, c2, c3, c4, c5⟩ := HB.out.1.cd
    simp only at c2 c3 c4 c5
    have r1 := HB.out.1.f1
    have r2 := HB.out.1.f2
    obtain ⟨k1, hk1⟩ : ∃ k1, (touL T.futures (uN : Int))[j]? = some k1 := ⟨_, List.getElem?_eq_getElem (by rw [← HNT.out]; exact hlt)⟩
    have hkf : k1 < nf := by have := touL_lt hk1; rw [HFL.out] at this; exact this
    obtain ⟨gb, go, ez, eA, hgb, hez, hq2⟩ := HB.out.2.at_ (k := j) (by rw [nums_length, ← HNT.out]; exact hlt)
    obtain ⟨k2, rfl, hk2⟩ := nums_atD hez
    obtain rfl : k1 = k2 := by rw [hk1] at hk2; exact Option.some.inj hk2
    subst eA
    obtain ⟨fb, fo, f1, f2, f3, hFe, hfb, hft, d1, d2, d3⟩ := (HISD.out _ HB.out.1.bel).t.futures.at_ (k := k1) (by rw [HFL.out]; exact hkf)
    simp only at hFe
    subst hFe
    have hfa : (futAt T.futures k1).2.2 = f3 := by unfold futAt; rw [List.getD_eq_getElem?_getD, hft]; rfl
    have HFA := Lib.hid hfa
    have HK1 := Lib.hid hk1
    by_cases hjq : j = q
    · have he : (f3 == Av) = true := by
        rw [hjq, HQ.out] at hk1
        rw [← hfa, ← Option.some.inj hk1, ← HAV.out]
        simp
      have hbe2 : (f0 : Int) + (j : Int) + 1 = (bg : Int) := by omega
      clear hjq hbe hj
      clear hk1 hk2 hez hgb hfb hft hfa d1 d2
      go_wp2
      go_quiet (fail)
      rename_i nq
      have hbd : Below wr.heap.size wr (wr.drewN nq) := below_drewN (Below.refl _ _) _
      obtain ⟨wd, hwd⟩ : ∃ wd, wd = wr.drewN nq := ⟨_, rfl⟩
      rw [← hwd] at hbd ⊢
      have HBd := Lib.hid (HB.out.1.next hbd)
      clear hwd hbd c0 c1 c2 c3 c4 c5 r1 r2
      obtain ⟨c0, c1, c2, c3, c4, c5⟩ := HBd.out.cd
      simp only at c2 c3 c4 c5
      have r1 := HBd.out.f1
      go_wp2_with fail
      refine (CF.out _ (HISD.out _ HBd.out.bel)).mono ?_
      rintro e w4 ⟨rfl, b4⟩
      have HB4 := Lib.hid (HBd.out.next b4)
      clear b4 c0 c1 c2 c3 c4 c5 r1
      go_wp2
      go_ret
      exact ⟨by first | rfl | rw [hbe2], HB4.out.bel⟩
    · have he : (f3 == Av) = false := by
        have h1 := List.pairwise_iff_getElem.mp HR.out j q (by rw [← HNT.out]; exact hlt) (by rw [← HNT.out]; exact hq) (by omega)
        rw [(List.getElem?_eq_some_iff.mp hk1).2, (List.getElem?_eq_some_iff.mp HQ.out).2, hfa, ← HAV.out] at h1
        simp
        omega
      have hjq' : j + 1 ≤ q := by omega
      clear hjq hbe
      clear hk1 hk2 hez hgb hfb hft hfa d1 d2
      go_wp2
      go_quiet (fail)
      rename_i nq
      have hbd : Below wr.heap.size wr (wr.drewN nq) := below_drewN (Below.refl _ _) _
      obtain ⟨wd, hwd⟩ : ∃ wd, wd = wr.drewN nq := ⟨_, rfl⟩
      rw [← hwd] at hbd ⊢
      have HBd := Lib.hid (And.intro (HB.out.1.next hbd) ((HB.out.2.below hbd).more hbd.size))
      clear hwd hbd c0 c1 c2 c3 c4 c5 r1 r2
      go_wp2
      go_roundw
      case rel => exact ⟨j + 1, by omega, by go_num, HBd⟩
      case measure => simp [intOf]; omega
end
end Go.Proofs.YtfahabphncmbfaaGreatDoor
