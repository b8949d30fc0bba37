/- The longest way, an edge more and an edge less: plain mathematics, in the seat YtmgfbpnphdkgiaaDoor. No statement is proved here. -/
import Derived.Test.YtmgfbpnphdkgiaaDoorPushBox
set_option linter.unusedVariables false
namespace Go.Proofs.YtmgfbpnphdkgiaaDoor
open Go.RowKit

section
variable {W : List Int} {E : List (Int × Int)}
theorem longV_is (hM : May W E) : IsLong W E (longV W E) := by
  unfold longV
  rw [if_pos hM]
  exact long_is hM.fits hM.acyc (fun z hz => (hM.work z hz).1)
theorem totalV_is (hM : May W E) : totalV W E = W.sum := by
  unfold totalV
  rw [if_pos hM]
theorem in_of {n : Nat} (hF : Fits n E) {p : List Nat} (hp : Up E p) (h1 : ∀ b, p = [b] → b < n) : In n p := hp.lt hF h1
theorem longV_total (hM : May W E) : longV W E ≤ W.sum ∧ 0 ≤ longV W E := by
  have h := longV_is hM
  rcases h.2 with ⟨hw, h0⟩ | ⟨p, hp, hi, he⟩
  · rw [h0, hw]
    exact ⟨Int.le_refl _, Int.le_refl _⟩
  · rw [← he]
    exact ⟨wsum_le (fun z hz => (hM.work z hz).1) (hp.nodup hM.acyc) hi, wsum_pos hM.work p⟩
theorem longV_node (hM : May W E) {k : Nat} {z : Int} (hk : W[k]? = some z) : z ≤ longV W E := by
  have h := (longV_is hM).1 [k] trivial (fun x hx => by
    obtain rfl : x = k := by simpa using hx
    rcases Nat.lt_or_ge x W.length with h | h
    · exact h
    · rw [List.getElem?_eq_none h] at hk; cases hk)
  simpa [wsum, List.getD_eq_getElem?_getD, hk] using h
theorem longV_edge (hM : May W E) {x y : Nat} {a b : Int} (he : ((x : Int), (y : Int)) ∈ E) (hx : W[x]? = some a) (hy : W[y]? = some b) : a + b ≤ longV W E := by
  have hl := ed_lt hM.fits he
  have h := (longV_is hM).1 [y, x] ⟨he, trivial⟩ (fun q hq => by
    rcases (by simpa using hq : q = y ∨ q = x) with rfl | rfl
    · exact hl.2
    · exact hl.1)
  simp [wsum, List.getD_eq_getElem?_getD, hx, hy] at h
  omega
theorem longV_mono {E' : List (Int × Int)} (hM : May W E) (hM' : May W E') (h : ∀ e ∈ E, e ∈ E') : longV W E ≤ longV W E' := by
  rcases (longV_is hM).2 with ⟨hw, h0⟩ | ⟨p, hp, hi, he⟩
  · rw [h0]
    exact (longV_total hM').2
  · rw [← he]
    exact (longV_is hM').1 p (Up.mono (fun a b hab => h _ hab) hp) hi
theorem May.erase (hM : May W E) (k : Nat) : May W (E.eraseIdx k) := by
  have hs : ∀ e ∈ E.eraseIdx k, e ∈ E := fun e he => (List.eraseIdx_sublist E k).mem he
  exact ⟨hM.nodes, Nat.le_trans (List.eraseIdx_sublist E k).length_le hM.edges, hM.work, fun e he => hM.fits e (hs e he), fun e he => hM.apart e (hs e he), hM.once.sublist (List.eraseIdx_sublist E k), hM.acyc.mono fun a b h => hs _ h⟩
theorem longV_erase (hM : May W E) (k : Nat) : longV W (E.eraseIdx k) ≤ longV W E :=
  longV_mono (hM.erase k) hM fun e he => (List.eraseIdx_sublist E k).mem he
end
end Go.Proofs.YtmgfbpnphdkgiaaDoor
