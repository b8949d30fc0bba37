/- Bytes that are turned (plain): what the laws of layer 3 turn, and that it is told, in the seat YtjngnejmgfncnaaDoor. No statement is proved here. -/
import Derived.Test.YtjngnejmgfncnaaDoorCrcAwake
set_option linter.unusedVariables false
namespace Go.Proofs.YtjngnejmgfncnaaDoor
open Go.RowKit

/-- k bytes from place a on, each exclusive-ored with its own. -/
def turnB (l : List UInt8) (a : Nat) (d : Nat → UInt8) : Nat → List UInt8
  | 0 => l
  | k + 1 => (turnB l a d k).set (a + k) ((turnB l a d k).getD (a + k) 0 ^^^ d k)
theorem turnB_length (l : List UInt8) (a : Nat) (d : Nat → UInt8) : ∀ k, (turnB l a d k).length = l.length
  | 0 => rfl
  | k + 1 => by
    show ((turnB l a d k).set _ _).length = _
    rw [List.length_set, turnB_length l a d k]
theorem turnB_at (l : List UInt8) (a : Nat) (d : Nat → UInt8) : ∀ (k i : Nat), a + k ≤ l.length → i < l.length →
    (turnB l a d k)[i]? = some (if a ≤ i ∧ i < a + k then l.getD i 0 ^^^ d (i - a) else l.getD i 0)
  | 0, i, _, hi => by
    rw [if_neg (by omega)]
    show l[i]? = _
    rw [List.getD_eq_getElem?_getD, List.getElem?_eq_getElem hi]
    rfl
  | k + 1, i, hk, hi => by
    have hl := turnB_length l a d k
    show ((turnB l a d k).set (a + k) ((turnB l a d k).getD (a + k) 0 ^^^ d k))[i]? = _
    by_cases h : i = a + k
    · subst h
      rw [List.getElem?_set_self (by omega), List.getD_eq_getElem?_getD, turnB_at l a d k (a + k) (by omega) hi, if_neg (by omega), if_pos (by omega), show a + k - a = k by omega]
      rfl
    · rw [List.getElem?_set_ne (fun e => h e.symm), turnB_at l a d k i (by omega) hi]
      by_cases h1 : a ≤ i ∧ i < a + k
      · rw [if_pos h1, if_pos (by omega)]
      · rw [if_neg h1, if_neg (by omega)]
theorem xor_back (x d : UInt8) : x.toNat ^^^ (x ^^^ d).toNat = d.toNat := by
  rw [UInt8.toNat_xor, ← Nat.xor_assoc, Nat.xor_self, Nat.zero_xor]
/-- What the two differ in. -/
theorem turnB_diff (l : List UInt8) (a k : Nat) (d : Nat → UInt8) (h : a + k ≤ l.length) :
    List.zipWith (fun u v : UInt8 => u.toNat ^^^ v.toNat) l (turnB l a d k) = List.replicate a 0 ++ ((List.range k).map (fun i => (d i).toNat) ++ List.replicate (l.length - a - k) 0) := by
  apply List.ext_getElem?
  intro i
  have hl := turnB_length l a d k
  rw [List.getElem?_zipWith]
  rcases Nat.lt_or_ge i l.length with hi | hi
  · rw [turnB_at l a d k i h hi, List.getElem?_eq_getElem hi]
    have hg : l.getD i 0 = l[i] := by rw [List.getD_eq_getElem?_getD, List.getElem?_eq_getElem hi]; rfl
    rw [hg]
    rcases Nat.lt_or_ge i a with h1 | h1
    · rw [if_neg (by omega), List.getElem?_append_left (by rw [List.length_replicate]; exact h1), List.getElem?_replicate, if_pos h1]
      simp
    · rw [List.getElem?_append_right (by rw [List.length_replicate]; exact h1), List.length_replicate]
      rcases Nat.lt_or_ge i (a + k) with h2 | h2
      · rw [if_pos (by omega), List.getElem?_append_left (by rw [List.length_map, List.length_range]; omega), List.getElem?_map, List.getElem?_range (by omega)]
        simp only [Option.map_some]
        rw [xor_back]
      · rw [if_neg (by omega), List.getElem?_append_right (by rw [List.length_map, List.length_range]; omega), List.length_map, List.length_range, List.getElem?_replicate, if_pos (by omega)]
        simp
  · rw [List.getElem?_eq_none hi, List.getElem?_eq_none (l := turnB l a d k) (by omega), List.getElem?_eq_none (by rw [List.length_append, List.length_append, List.length_replicate, List.length_replicate, List.length_map, List.length_range]; omega)]

/-- A number's four bytes. -/
def quad (n : Nat) : Nat → UInt8
  | 0 => UInt8.ofNat (n % 256)
  | 1 => UInt8.ofNat (n / 256 % 256)
  | 2 => UInt8.ofNat (n / 65536 % 256)
  | _ => UInt8.ofNat (n / 16777216 % 256)
theorem ofNat_mod (n : Nat) : (UInt8.ofNat (n % 256)).toNat = n % 256 := by
  rw [UInt8.toNat_ofNat']
  omega
theorem quad_list (n : Nat) : (List.range 4).map (fun i => (quad n i).toNat) = [n % 256, n / 256 % 256, n / 65536 % 256, n / 16777216 % 256] := by
  show [(quad n 0).toNat, (quad n 1).toNat, (quad n 2).toNat, (quad n 3).toNat] = _
  unfold quad
  simp only [ofNat_mod]
theorem crc_iff (a b : List UInt8) : crc a = crc b ↔ run 4294967295 a = run 4294967295 b := by
  unfold crc
  constructor
  · intro h
    have h2 := congrArg (· ^^^ 4294967295) h
    simpa [xor_xor] using h2
  · intro h
    rw [h]
theorem crc_turned (l : List UInt8) (a n : Nat) (hn : n < 4294967296) (h : a + 4 ≤ l.length) : crc (turnB l a (quad n) 4) = crc l ↔ n = 0 := by
  rw [eq_comm, crc_iff]
  refine turned 4294967295 a (l.length - a - 4) n l (turnB l a (quad n) 4) hn (turnB_length l a (quad n) 4).symm ?_
  rw [turnB_diff l a 4 (quad n) h, quad_list]
/-- One byte that is another one is told. -/
theorem crc_one (l : List UInt8) (a : Nat) (y : UInt8) (hy : y ≠ 0) (h : a < l.length) : crc (turnB l a (fun _ => y) 1) ≠ crc l := by
  intro e
  have e1 := ((crc_iff _ _).mp e).symm
  have hd := run_diff l (turnB l a (fun _ => y) 1) 4294967295 4294967295 (turnB_length l a _ 1).symm
  rw [e1, Nat.xor_self, Nat.xor_self, turnB_diff l a 1 _ (by omega), drun_append, drun_ahead, drun_append] at hd
  have hlt : drun 0 ((List.range 1).map fun _ => y.toNat) < 4294967296 := by
    show up 0 y.toNat < _
    exact up_lt (by omega) y.toNat_lt
  have hz := (drun_zeros _ _ hlt).mp hd.symm
  have hz1 : up 0 y.toNat = 0 := hz
  unfold up at hz1
  rw [Nat.zero_xor] at hz1
  have hb := y.toNat_lt
  have hy0 := st8_zero (by omega) hz1
  apply hy
  apply UInt8.toNat_inj.mp
  rw [hy0]
  rfl
theorem tl_inj {n m : Nat} (hn : n < 4294967296) (hm : m < 4294967296) (h : tl n = tl m) : n = m := by
  unfold tl at h
  simp only [List.cons.injEq, and_true] at h
  obtain ⟨h0, h1, h2, h3⟩ := h
  have k0 := congrArg UInt8.toNat h0
  have k1 := congrArg UInt8.toNat h1
  have k2 := congrArg UInt8.toNat h2
  have k3 := congrArg UInt8.toNat h3
  simp only [UInt8.toNat_ofNat'] at k0 k1 k2 k3
  omega
theorem sound_list (l : List UInt8) : sound ⟨l.toArray⟩ ↔ 4 ≤ l.length ∧ l.drop (l.length - 4) = tl (crc (l.take (l.length - 4))) := by
  have hs : (⟨l.toArray⟩ : ByteArray).size = l.length := by simp [ByteArray.size]
  unfold sound
  rw [hs]
  refine and_congr_right fun h4 => ?_
  constructor
  · intro h
    have h1 := congrArg (fun s : ByteArray => s.data.toList) h
    simp only [tail_list, text_list, hs] at h1
    exact h1
  · intro h
    apply bytes_ext
    rw [tail_list, text_list, hs]
    exact h
/-- One byte of what is sealed. -/
theorem one_unsound (s : ByteArray) (a : Nat) (y : UInt8) (hy : y ≠ 0) (h : a < s.size + 4) : ¬ sound ⟨(turnB (sealL s.data.toList) a (fun _ => y) 1).toArray⟩ := by
  rw [sound_list, turnB_length]
  rintro ⟨_, hd⟩
  have hsz : s.data.toList.length = s.size := rfl
  obtain ⟨l, hl⟩ : ∃ l, l = s.data.toList := ⟨_, rfl⟩
  rw [← hl] at hd hsz
  clear hl
  have hlen : (sealL l).length - 4 = l.length := by unfold sealL; rw [List.length_append, tl_length]; omega
  rw [hlen] at hd
  rcases Nat.lt_or_ge a l.length with h1 | h1
  · have e : turnB (sealL l) a (fun _ => y) 1 = turnB l a (fun _ => y) 1 ++ tl (crc l) := by
      show (sealL l).set (a + 0) ((sealL l).getD (a + 0) 0 ^^^ y) = l.set (a + 0) (l.getD (a + 0) 0 ^^^ y) ++ tl (crc l)
      unfold sealL
      rw [List.set_append, if_pos (by omega), List.getD_eq_getElem?_getD, List.getElem?_append_left (by omega), List.getD_eq_getElem?_getD]
    have hl2 := turnB_length l a (fun _ => y) 1
    rw [e, ← hl2, List.drop_left, List.take_left] at hd
    exact crc_one l a y hy h1 (tl_inj (crc_lt _) (crc_lt _) hd).symm
  · have e : turnB (sealL l) a (fun _ => y) 1 = l ++ (tl (crc l)).set (a - l.length) ((tl (crc l)).getD (a - l.length) 0 ^^^ y) := by
      show (sealL l).set (a + 0) ((sealL l).getD (a + 0) 0 ^^^ y) = _
      unfold sealL
      rw [List.set_append, if_neg (by omega), Nat.add_zero, List.getD_eq_getElem?_getD, List.getElem?_append_right h1, List.getD_eq_getElem?_getD]
    rw [e, List.drop_left, List.take_left] at hd
    have hk : a - l.length < (tl (crc l)).length := by rw [tl_length]; omega
    have h2 := congrArg (fun r : List UInt8 => r[a - l.length]?) hd
    simp only [List.getElem?_set_self hk] at h2
    rw [List.getD_eq_getElem?_getD, List.getElem?_eq_getElem hk] at h2
    have h3 : (tl (crc l))[a - l.length] ^^^ y = (tl (crc l))[a - l.length] := by simpa using h2
    obtain ⟨x, hx⟩ : ∃ x, x = (tl (crc l))[a - l.length] := ⟨_, rfl⟩
    rw [← hx] at h3
    have h4 := xor_back x y
    rw [h3, Nat.xor_self] at h4
    apply hy
    apply UInt8.toNat_inj.mp
    rw [← h4]
    rfl
end Go.Proofs.YtjngnejmgfncnaaDoor
