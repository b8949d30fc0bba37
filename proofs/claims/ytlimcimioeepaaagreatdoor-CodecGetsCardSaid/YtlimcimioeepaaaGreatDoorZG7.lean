/- The contracts of the document's own Wide, Put and Get of layer 2 (trefoilref02) in the seat YtlimcimioeepaaaGreatDoor.
   The plain arithmetic of the layer crc in the seat YtlimcimioeepaaaGreatDoor: the sum bit by bit, that it is linear, that turned bits are told. No statement is proved here; it imports nothing of the program.
   Bits of sums in the seat YtlimcimioeepaaaGreatDoor: all turned; a run of one byte more.
   The contract of the document's own Sum of layer 3 (trefoilref03) in the seat YtlimcimioeepaaaGreatDoor.
   A sum as four bytes in the seat YtlimcimioeepaaaGreatDoor: the contract of trefoilref03.Tail; sealed bytes.
   The contract of the document's own Open of layer 3 (trefoilref03) in the seat YtlimcimioeepaaaGreatDoor.
   The contract of trefoilref06.put in the seat YtlimcimioeepaaaGreatDoor.
   crc.step, crc.More and crc.Sum in the seat YtlimcimioeepaaaGreatDoor: their contracts, over a world that holds the program's table.
   crc.More and crc.Sum in the seat YtlimcimioeepaaaGreatDoor: their contracts.
   The contracts of crc.spell and crc.Seal in the seat YtlimcimioeepaaaGreatDoor.
   No statement is proved here. -/
import Derived.Test.YtlimcimioeepaaaGreatDoorChecked
import Derived.WalkKit
import Derived.Below
import Derived.KernelRfl
import Derived.Handy
import Derived.Test.YtlimcimioeepaaaGreatDoorZG6
import Derived.Lib.Hide
import Derived.Laws.BitsAllLaws
import Derived.Test.YtlimcimioeepaaaGreatDoorZG1
import Derived.Laws.Strings2
import Derived.WalkSmall
import Derived.Test.YtlimcimioeepaaaGreatDoorZG4
namespace Go.Proofs.YtlimcimioeepaaaGreatDoor
open Go.RowKit Go.Lib

theorem rwide_any (k : Int) (w : World) : Calls Tryz.prog 63 #[.int .i64 k] w fun e w' => e = .returned (.bool (wide k)) ∧ w = w' := by
  by_cases h1 : k = 1
  · subst h1
    go_enter Tryz.func63, Tryz.ntmps63
    go_wp2
    go_ret
    exact ⟨rfl, rfl⟩
  by_cases h2 : k = 2
  · subst h2
    go_enter Tryz.func63, Tryz.ntmps63
    go_wp2
    go_ret
    exact ⟨rfl, rfl⟩
  by_cases h3 : k = 4
  · subst h3
    go_enter Tryz.func63, Tryz.ntmps63
    go_wp2
    go_ret
    exact ⟨rfl, rfl⟩
  by_cases h4 : k = 8
  · subst h4
    go_enter Tryz.func63, Tryz.ntmps63
    go_wp2
    go_ret
    exact ⟨rfl, rfl⟩
  have e1 : (k == 1) = false := by simpa using h1
  have e2 : (k == 2) = false := by simpa using h2
  have e3 : (k == 4) = false := by simpa using h3
  have e4 : (k == 8) = false := by simpa using h4
  have hw : wide k = false := by simp [wide, e1, e2, e3, e4]
  rw [hw]
  clear h1 h2 h3 h4 hw
  go_enter Tryz.func63, Tryz.ntmps63
  go_wp2
  go_ret
  exact ⟨rfl, rfl⟩
theorem rwide_yes {k : Int} (h : wide k = true) (w : World) : Calls Tryz.prog 63 #[.int .i64 k] w fun e w' => e = .returned (.bool true) ∧ w = w' := h ▸ rwide_any k w
theorem rwide_no {k : Int} (h : wide k = false) (w : World) : Calls Tryz.prog 63 #[.int .i64 k] w fun e w' => e = .returned (.bool false) ∧ w = w' := h ▸ rwide_any k w

/-- One byte as a string. -/
theorem conv1 (w : World) (a : Int) (t : TypeId) : (convert 45 9 (.slice (some ⟨w.heap.size, 0, none⟩) 1 1)).run Tryz.prog (w.alloc (.cells #[.int .u8 a] t)) = .ok (.string (strOfNums [a])) (w.alloc (.cells #[.int .u8 a] t)) :=
  run_convert_bytes_arg _ 45 5 Tryz.underlying45 Tryz.underlying5 w.heap.size 0 1 1 [a] rfl (fun i hi => by
    rw [World.cell?_alloc_at _ _ _ _ rfl, Nat.zero_add]
    match i, hi with
    | 0, _ => rfl) 9 Tryz.underlying9

theorem str_snoc (j n q : Nat) (h : q = n / 256 ^ j) : (⟨(Lib.leBytes j n).toArray⟩ : ByteArray) ++ strOfNums [(q : Int) % 256] = ⟨(Lib.leBytes (j + 1) n).toArray⟩ := by
  rw [leBytes_snoc, ← h]
  apply ByteArray.ext
  rw [ByteArray.data_append]
  simp [strOfNums, ofNat_toNat]
theorem rput_loop (n m : Nat) (w : World) (hw : wide m = true) (hn : n ≤ 9223372036854775807) :
    Calls Tryz.prog 59 #[.int .i64 n, .int .i64 m] w fun e w' => e = .returned (.tuple #[.string ⟨(putL n m).toArray⟩, .int .i64 (putE n m)]) ∧ Below w.heap.size w w' := by
  have C := Lib.hid (fun W => rwide_yes hw W)
  obtain ⟨P, hP⟩ := pow_of hw
  have hm : m ≤ 8 ∧ ((256 ^ m : Nat) : Int) = P := by
    obtain ⟨m', h, h1, h8, e⟩ := hP.nat
    obtain rfl : m = m' := by omega
    exact ⟨h8, e⟩
  obtain ⟨h8, hPe⟩ := hm
  have HF := Lib.hid (fits_iff (n := n) hP)
  have HE := Lib.hid hPe
  have HW := Lib.hid hw
  clear hP hw hPe
  go_enter Tryz.func59, Tryz.ntmps59
  go_wp2_with fail
  refine (C.out _).mono ?_
  rintro e w' ⟨rfl, rfl⟩
  go_wp2
  go_loopw [0, 6, 7] (fun n' s i wr => ∃ j q : Nat, j ≤ m ∧ i = .int .i64 j ∧ q ≤ 9223372036854775807 ∧ Hid (q = n / 256 ^ j) ∧ n' = .int .i64 q ∧ s = .string ⟨(Lib.leBytes j n).toArray⟩ ∧ Below w.heap.size w wr) (fun _ _ i _ => m - (intOf i).toNat)
  case atStart => exact ⟨0, n, Nat.zero_le _, rfl, hn, Lib.hid (by simp), rfl, rfl, Below.refl _ _⟩
  case round =>
    obtain ⟨j, q, hj, rfl, hq, hqe, rfl, rfl, hbel⟩ := hrel
    by_cases hlt : j < m
    · have hcv := conv1 wr ((q : Int) % 256) 5
      have hl : (Lib.leBytes j n).length + (strOfNums [(q : Int) % 256]).size ≤ 9223372036854775807 := by rw [Lib.leBytes_length, strOfNums_size]; simp; omega
      go_wp2
      go_roundw
      case rel => exact ⟨j + 1, q / 256, by omega, by go_num, by omega, Lib.hid (by rw [hqe.out, Nat.div_div_eq_div_mul, Nat.pow_succ]), by go_num, by rw [str_snoc j n q hqe.out], hbel.alloc hbel.size _⟩
      case measure => simp [intOf]; omega
    · obtain rfl : j = m := by omega
      by_cases h0 : q = 0
      · subst h0
        have hf : fits n j = true := HF.out.mpr ⟨by omega, by
          have := hqe.out
          have h1 : n < 256 ^ j := by
            rcases Nat.lt_or_ge n (256 ^ j) with h | h
            · exact h
            · have := Nat.div_pos h (Nat.pow_pos (by omega)); omega
          rw [← HE.out]; omega⟩
        go_wp2
        go_ret2
        exact ⟨by rw [putL_fine HW.out hf, putE_fine HW.out hf]; rfl, hbel⟩
      · have hf : fits n j = false := by
          rw [Bool.eq_false_iff]
          intro h
          have h1 := (HF.out.mp h).2
          rw [← HE.out] at h1
          have : n / 256 ^ j = 0 := Nat.div_eq_of_lt (by omega)
          exact h0 (hqe.out.trans this)
        have hb : ((q : Int) != 0) = true := by simp; omega
        go_wp2
        go_ret2
        exact ⟨by rw [putL_great hf, putE_great HW.out hf]; rfl, hbel⟩
theorem rput_any (n k : Int) (w : World) (hm : n ≤ 9223372036854775807) :
    Calls Tryz.prog 59 #[.int .i64 n, .int .i64 k] w fun e w' => e = .returned (.tuple #[.string ⟨(putL n k).toArray⟩, .int .i64 (putE n k)]) ∧ Below w.heap.size w w' := by
  cases hw : wide k with
  | false =>
    have C := Lib.hid (fun W => rwide_no hw W)
    rw [putL_wide hw, putE_wide hw]
    clear hw
    go_enter Tryz.func59, Tryz.ntmps59
    go_wp2_with fail
    refine (C.out _).mono ?_
    rintro e w' ⟨rfl, rfl⟩
    go_wp2
    go_ret2
    exact ⟨rfl, Below.refl _ _⟩
  | true =>
    by_cases h0 : n < 0
    · have hf : fits n k = false := by unfold fits; rw [decide_eq_false_iff_not]; omega
      have C := Lib.hid (fun W => rwide_yes hw W)
      rw [putL_great hf, putE_great hw hf]
      clear hw hf
      go_enter Tryz.func59, Tryz.ntmps59
      go_wp2_with fail
      refine (C.out _).mono ?_
      rintro e w' ⟨rfl, rfl⟩
      go_wp2
      go_ret2
      exact ⟨rfl, Below.refl _ _⟩
    · obtain ⟨P, hP⟩ := pow_of hw
      obtain ⟨m, rfl, _⟩ := hP.nat
      obtain ⟨j, rfl⟩ : ∃ j : Nat, n = j := ⟨n.toNat, by omega⟩
      exact rput_loop j m w hw (by omega)
end Go.Proofs.YtlimcimioeepaaaGreatDoor
set_option linter.unusedVariables false
namespace Go.Proofs.YtlimcimioeepaaaGreatDoor

/-- One bit, eight bits, one byte, many bytes. -/
def st (n : Nat) : Nat := if n % 2 = 1 then n / 2 ^^^ 3988292384 else n / 2
def st8 (n : Nat) : Nat := st (st (st (st (st (st (st (st n)))))))
def up (n b : Nat) : Nat := st8 (n ^^^ b)
def run (n : Nat) (l : List UInt8) : Nat := l.foldl (fun n b => up n b.toNat) n
def crc (l : List UInt8) : Nat := run 4294967295 l ^^^ 4294967295
def more (s : Nat) (l : List UInt8) : Nat := run (s ^^^ 4294967295) l ^^^ 4294967295

theorem xor_lt {a b : Nat} (ha : a < 4294967296) (hb : b < 4294967296) : a ^^^ b < 4294967296 := Nat.xor_lt_two_pow (n := 32) ha hb
theorem st_lt {n : Nat} (h : n < 4294967296) : st n < 4294967296 := by
  unfold st
  split
  · exact xor_lt (by omega) (by omega)
  · omega
theorem st8_lt {n : Nat} (h : n < 4294967296) : st8 n < 4294967296 := st_lt (st_lt (st_lt (st_lt (st_lt (st_lt (st_lt (st_lt h)))))))
theorem up_lt {n b : Nat} (h : n < 4294967296) (hb : b < 256) : up n b < 4294967296 := st8_lt (xor_lt h (by omega))
theorem run_lt : ∀ (l : List UInt8) (n : Nat), n < 4294967296 → run n l < 4294967296
  | [], _, h => h
  | b :: l, n, h => run_lt l _ (up_lt h b.toNat_lt)
theorem crc_lt (l : List UInt8) : crc l < 4294967296 := xor_lt (run_lt l _ (by omega)) (by omega)
theorem more_lt {s : Nat} (h : s < 4294967296) (l : List UInt8) : more s l < 4294967296 := xor_lt (run_lt l _ (xor_lt h (by omega))) (by omega)
theorem xor_xor (a b : Nat) : a ^^^ b ^^^ b = a := by rw [Nat.xor_assoc, Nat.xor_self, Nat.xor_zero]
theorem run_append (n : Nat) (a b : List UInt8) : run n (a ++ b) = run (run n a) b := by unfold run; rw [List.foldl_append]
theorem more_crc (a b : List UInt8) : more (crc a) b = crc (a ++ b) := by
  unfold more crc
  rw [xor_xor, run_append]
theorem more_nil (s : Nat) : more s [] = s := xor_xor s _

/-- The step is linear. -/
theorem half_xor (a b : Nat) : (a ^^^ b) / 2 = a / 2 ^^^ b / 2 := by
  have h := Nat.xor_div_two_pow (a := a) (b := b) (n := 1)
  simpa using h
theorem odd_xor (a b : Nat) : (a ^^^ b) % 2 = (a % 2 + b % 2) % 2 := by
  have h := Nat.xor_mod_two_pow (a := a) (b := b) (n := 1)
  have e : (a ^^^ b) % 2 = (a % 2) ^^^ (b % 2) := by simpa using h
  rw [e]
  have ha : a % 2 = 0 ∨ a % 2 = 1 := by omega
  have hb : b % 2 = 0 ∨ b % 2 = 1 := by omega
  rcases ha with ha | ha <;> rcases hb with hb | hb <;> rw [ha, hb] <;> decide
theorem st_xor (a b : Nat) : st (a ^^^ b) = st a ^^^ st b := by
  unfold st
  rw [half_xor, odd_xor]
  have ha : a % 2 = 0 ∨ a % 2 = 1 := by omega
  have hb : b % 2 = 0 ∨ b % 2 = 1 := by omega
  rcases ha with ha | ha <;> rcases hb with hb | hb <;> simp only [ha, hb]
  · simp
  · simp [Nat.xor_assoc]
  · simp
    rw [Nat.xor_assoc, Nat.xor_assoc, Nat.xor_comm 3988292384]
  · have e : a / 2 ^^^ 3988292384 ^^^ (b / 2 ^^^ 3988292384) = a / 2 ^^^ b / 2 := by
      rw [Nat.xor_comm (b / 2), ← Nat.xor_assoc, xor_xor]
    simp [e]
theorem st8_xor (a b : Nat) : st8 (a ^^^ b) = st8 a ^^^ st8 b := by
  unfold st8
  simp only [st_xor]
theorem up_xor (a b c d : Nat) : up (a ^^^ c) (b ^^^ d) = up a b ^^^ up c d := by
  unfold up
  rw [← st8_xor]
  congr 1
  rw [Nat.xor_assoc, ← Nat.xor_assoc c b d, Nat.xor_comm c b, Nat.xor_assoc b c d, ← Nat.xor_assoc]
theorem st_zero {n : Nat} (h : n < 4294967296) (e : st n = 0) : n = 0 := by
  unfold st at e
  by_cases ho : n % 2 = 1
  · rw [if_pos ho] at e
    have e2 : n / 2 = 3988292384 := by
      have := congrArg (· ^^^ 3988292384) e
      simpa [xor_xor] using this
    omega
  · rw [if_neg ho] at e; omega
theorem st8_zero {n : Nat} (h : n < 4294967296) (e : st8 n = 0) : n = 0 := by
  unfold st8 at e
  have a1 := st_lt h
  have a2 := st_lt a1
  have a3 := st_lt a2
  have a4 := st_lt a3
  have a5 := st_lt a4
  have a6 := st_lt a5
  have a7 := st_lt a6
  exact st_zero h (st_zero a1 (st_zero a2 (st_zero a3 (st_zero a4 (st_zero a5 (st_zero a6 (st_zero a7 e)))))))
theorem st8_nil : st8 0 = 0 := by decide
theorem st_even (n : Nat) : st (2 * n) = n := by unfold st; rw [if_neg (by omega)]; omega
theorem st8_256 (n : Nat) : st8 (256 * n) = n := by
  rw [show 256 * n = 2 * (2 * (2 * (2 * (2 * (2 * (2 * (2 * n))))))) by omega]
  unfold st8
  simp only [st_even]
/-- A number's lowest byte, and what stands above it. -/
theorem split_256 (n : Nat) : n = n % 256 ^^^ 256 * (n / 256) := by
  apply Nat.eq_of_testBit_eq
  intro i
  rw [Nat.testBit_xor, show (256 : Nat) = 2 ^ 8 from rfl, Nat.testBit_mod_two_pow, Nat.testBit_two_pow_mul, Nat.testBit_div_two_pow]
  by_cases h : i < 8
  · simp [h, show ¬ 8 ≤ i by omega]
  · simp [h, show 8 ≤ i by omega]
/-- The step of a table of 256 numbers. -/
theorem up_table (n b : Nat) (hb : b < 256) : up n b = st8 ((n ^^^ b) % 256) ^^^ n / 256 := by
  unfold up
  conv => lhs; rw [split_256 (n ^^^ b)]
  rw [st8_xor, st8_256]
  congr 1
  have h := Nat.xor_div_two_pow (a := n) (b := b) (n := 8)
  have e : (n ^^^ b) / 256 = n / 256 ^^^ b / 256 := by simpa using h
  rw [e, Nat.div_eq_of_lt hb, Nat.xor_zero]

/-- What two texts of one length differ in, run by itself. -/
def drun (d : Nat) : List Nat → Nat
  | [] => d
  | x :: l => drun (up d x) l
theorem run_diff : ∀ (a b : List UInt8) (n m : Nat), a.length = b.length → run n a ^^^ run m b = drun (n ^^^ m) (List.zipWith (fun x y => x.toNat ^^^ y.toNat) a b)
  | [], [], n, m, _ => rfl
  | [], _ :: _, _, _, h => by simp at h
  | _ :: _, [], _, _, h => by simp at h
  | x :: a, y :: b, n, m, h => by
    have ih := run_diff a b (up n x.toNat) (up m y.toNat) (by simpa using h)
    show run (up n x.toNat) a ^^^ run (up m y.toNat) b = drun (up (n ^^^ m) (x.toNat ^^^ y.toNat)) _
    rw [ih, up_xor]
theorem drun_append (d : Nat) : ∀ (a b : List Nat), drun d (a ++ b) = drun (drun d a) b := by
  intro a
  induction a generalizing d with
  | nil => intro b; rfl
  | cons x a ih => intro b; exact ih (up d x) b
theorem drun_zeros : ∀ (k d : Nat), d < 4294967296 → (drun d (List.replicate k 0) = 0 ↔ d = 0)
  | 0, d, _ => Iff.rfl
  | k + 1, d, h => by
    have h1 := up_lt h (b := 0) (by omega)
    rw [List.replicate_succ]
    show drun (up d 0) (List.replicate k 0) = 0 ↔ d = 0
    rw [drun_zeros k _ h1]
    unfold up
    rw [Nat.xor_zero]
    exact ⟨st8_zero h, fun e => by rw [e, st8_nil]⟩
theorem drun_ahead : ∀ k : Nat, drun 0 (List.replicate k 0) = 0
  | 0 => rfl
  | k + 1 => by
    rw [List.replicate_succ]
    show drun (up 0 0) (List.replicate k 0) = 0
    rw [show up 0 0 = 0 by decide]
    exact drun_ahead k
/-- Four bytes one behind the other, of a number of 32 bits, are that number's 32 steps: so they come to nothing just if all are nought. -/
theorem four_steps (x : Nat) : drun 0 [x % 256, x / 256 % 256, x / 65536 % 256, x / 16777216 % 256] = st8 (st8 (st8 (st8 (x % 4294967296)))) := by
  have key : ∀ d z : Nat, st8 (d ^^^ z) = up d (z % 256) ^^^ z / 256 := by
    intro d z
    conv => lhs; rw [split_256 z]
    rw [← Nat.xor_assoc, st8_xor, st8_256]
    rfl
  have e0 : x % 4294967296 / 256 / 256 / 256 / 256 = 0 := by omega
  have h1 := key 0 (x % 4294967296)
  rw [Nat.zero_xor] at h1
  have h2 := key (up 0 (x % 4294967296 % 256)) (x % 4294967296 / 256)
  have h3 := key (up (up 0 (x % 4294967296 % 256)) (x % 4294967296 / 256 % 256)) (x % 4294967296 / 256 / 256)
  have h4 := key (up (up (up 0 (x % 4294967296 % 256)) (x % 4294967296 / 256 % 256)) (x % 4294967296 / 256 / 256 % 256)) (x % 4294967296 / 256 / 256 / 256)
  rw [h1, h2, h3, h4, e0, Nat.xor_zero]
  rw [show x % 4294967296 % 256 = x % 256 by omega, show x % 4294967296 / 256 % 256 = x / 256 % 256 by omega, show x % 4294967296 / 256 / 256 % 256 = x / 65536 % 256 by omega, show x % 4294967296 / 256 / 256 / 256 % 256 = x / 16777216 % 256 by omega]
  rfl
theorem four_zero {x : Nat} (hx : x < 4294967296) : drun 0 [x % 256, x / 256 % 256, x / 65536 % 256, x / 16777216 % 256] = 0 ↔ x = 0 := by
  rw [four_steps, Nat.mod_eq_of_lt hx]
  constructor
  · intro h
    exact st8_zero hx (st8_zero (st8_lt hx) (st8_zero (st8_lt (st8_lt hx)) (st8_zero (st8_lt (st8_lt (st8_lt hx))) h)))
  · rintro rfl
    decide
/-- Bits that are turned within four bytes that stand together are told. -/
theorem turned (n i j x : Nat) (a b : List UInt8) (hx : x < 4294967296) (hl : a.length = b.length)
    (hd : List.zipWith (fun u v : UInt8 => u.toNat ^^^ v.toNat) a b = List.replicate i 0 ++ ([x % 256, x / 256 % 256, x / 65536 % 256, x / 16777216 % 256] ++ List.replicate j 0)) :
    run n a = run n b ↔ x = 0 := by
  have h := run_diff a b n n hl
  rw [Nat.xor_self, hd, drun_append, drun_ahead, drun_append] at h
  have hlt : drun 0 [x % 256, x / 256 % 256, x / 65536 % 256, x / 16777216 % 256] < 4294967296 := by
    rw [four_steps]
    exact st8_lt (st8_lt (st8_lt (st8_lt (Nat.mod_lt _ (by omega)))))
  have hz := drun_zeros j _ hlt
  rw [← h, four_zero hx] at hz
  rw [← hz]
  constructor
  · intro e; rw [e, Nat.xor_self]
  · intro e
    have e2 := congrArg (· ^^^ run n b) e
    simpa [xor_xor] using e2
end Go.Proofs.YtlimcimioeepaaaGreatDoor
set_option linter.unusedVariables false
namespace Go.Proofs.YtlimcimioeepaaaGreatDoor
open Go.RowKit

theorem run_snoc (n : Nat) (l : List UInt8) (j : Nat) (h : j < l.length) : run n (l.take (j + 1)) = up (run n (l.take j)) l[j].toNat := by
  rw [List.take_add_one, List.getElem?_eq_getElem h, run_append]
  rfl
theorem ones_xor (x : Nat) (hx : x < 4294967296) : bits .xor .u32 IntKind.u32.max (x : Int) = ((x ^^^ 4294967295 : Nat) : Int) := by
  rw [show IntKind.u32.max = ((4294967295 : Nat) : Int) by decide, u32_xor_nat _ _ (by omega) hx, Nat.xor_comm]
theorem ones_xor' (x : Nat) (hx : x < 4294967296) : bits .xor .u32 4294967295 (x : Int) = ((x ^^^ 4294967295 : Nat) : Int) := by
  rw [show (4294967295 : Int) = ((4294967295 : Nat) : Int) from rfl, u32_xor_nat _ _ (by omega) hx, Nat.xor_comm]
end Go.Proofs.YtlimcimioeepaaaGreatDoor
set_option linter.unusedVariables false
namespace Go.Proofs.YtlimcimioeepaaaGreatDoor
open Go.RowKit

def sts : Nat → Nat → Nat
  | 0, n => n
  | k + 1, n => st (sts k n)
theorem sts_8 (n : Nat) : sts 8 n = st8 n := rfl
theorem sts_lt {n : Nat} (h : n < 4294967296) : ∀ k, sts k n < 4294967296
  | 0 => h
  | k + 1 => st_lt (sts_lt h k)
set_option maxRecDepth 100000 in
set_option maxHeartbeats 1000000 in
theorem rsum_any (s : ByteArray) (w : World) (hs : s.size ≤ 9223372036854775807) :
    Calls Tryz.prog 26 #[.string s] w fun e w' => e = .returned (.int .u32 (crc s.data.toList : Nat)) ∧ w = w' := by
  have HS : Hid (s.data.toList.length = s.size) := Lib.hid rfl
  have HM : Hid (crc s.data.toList = run 4294967295 s.data.toList ^^^ 4294967295) := Lib.hid rfl
  go_enter Tryz.func26, Tryz.ntmps26
  go_wp2
  go_loop [3, 4] (fun n i => ∃ j q : Nat, j ≤ s.size ∧ i = .int .i64 j ∧ q < 4294967296 ∧ Hid (q = run 4294967295 (s.data.toList.take j)) ∧ n = .int .u32 q) (fun _ i => s.size - (intOf i).toNat)
  case atStart => exact ⟨0, 4294967295, Nat.zero_le _, rfl, by omega, Lib.hid rfl, rfl⟩
  case round =>
    obtain ⟨j, q, hj, rfl, hq, hqe, rfl⟩ := hrel
    by_cases hlt : j < s.size
    · have hb := s[j].toNat_lt
      have hxx := u32_xor_nat q s[j].toNat hq (by omega)
      have hz : q ^^^ s[j].toNat < 4294967296 := xor_lt hq (by omega)
      have HU := Lib.hid (show sts 8 (q ^^^ s[j].toNat) = run 4294967295 (s.data.toList.take (j + 1)) by
        rw [run_snoc _ _ _ (by rw [HS.out]; exact hlt), ← hqe.out]
        rfl)
      obtain ⟨z, hze⟩ : ∃ z, z = q ^^^ s[j].toNat := ⟨_, rfl⟩
      rw [← hze] at HU hz hxx
      clear hze
      go_wp2
      go_loop [3, 5] (fun n i => ∃ k p : Nat, k ≤ 8 ∧ i = .int .i64 k ∧ p < 4294967296 ∧ Hid (p = sts k z) ∧ n = .int .u32 p) (fun _ i => 8 - (intOf i).toNat)
      case atStart => exact ⟨0, z, Nat.zero_le _, rfl, hz, Lib.hid rfl, rfl⟩
      case round =>
        obtain ⟨k, p, hk, rfl, hp, hpe, rfl⟩ := hrel
        by_cases hk8 : k < 8
        · have HP : Hid (st p = sts (k + 1) z) := Lib.hid (by rw [hpe.out]; rfl)
          have hpl := st_lt hp
          by_cases ho : p % 2 = 1
          · have hx2 : bits .xor .u32 ((p : Int) / 2) 3988292384 = ((p / 2 ^^^ 3988292384 : Nat) : Int) := u32_xor_nat (p / 2) 3988292384 (by omega) (by omega)
            have e1 : st p = p / 2 ^^^ 3988292384 := by unfold st; rw [if_pos ho]
            rw [e1] at HP hpl
            clear e1
            go_wp2
            go_round
            case rel => exact ⟨k + 1, _, by omega, by go_num, hpl, HP, rfl⟩
            case measure => simp [intOf]; omega
          · have e1 : st p = p / 2 := by unfold st; rw [if_neg ho]
            rw [e1] at HP hpl
            clear e1
            go_wp2
            go_round
            case rel => exact ⟨k + 1, _, by omega, by go_num, hpl, HP, rfl⟩
            case measure => simp [intOf]; omega
        · obtain rfl : k = 8 := by omega
          rw [← hpe.out] at HU
          go_wp2
          go_round
          case rel => exact ⟨j + 1, p, by omega, by go_num, hp, HU, rfl⟩
          case measure => simp [intOf]; omega
    · obtain rfl : j = s.size := by omega
      have hl : s.data.toList.take s.size = s.data.toList := List.take_of_length_le (by rw [HS.out]; omega)
      have h1 : bits .xor .u32 (q : Int) 4294967295 = ((q ^^^ 4294967295 : Nat) : Int) := u32_xor_nat q 4294967295 hq (by omega)
      rw [hl] at hqe
      rw [← hqe.out] at HM
      go_wp2
      go_ret
      exact ⟨by rw [HM.out]; rfl, rfl⟩
end Go.Proofs.YtlimcimioeepaaaGreatDoor
set_option linter.unusedVariables false
namespace Go.Proofs.YtlimcimioeepaaaGreatDoor
open Go.RowKit

/-- A sum's bytes, the lowest one first. -/
def tl (n : Nat) : List UInt8 := [UInt8.ofNat (n % 256), UInt8.ofNat (n / 256 % 256), UInt8.ofNat (n / 65536 % 256), UInt8.ofNat (n / 16777216)]
def tz (n : Nat) : List Int := [(n : Int) % 256, (n : Int) / 256 % 256, (n : Int) / 65536 % 256, (n : Int) / 16777216]
theorem tl_length (n : Nat) : (tl n).length = 4 := rfl

theorem str_tz (n : Nat) : strOfNums (tz n) = ⟨(tl n).toArray⟩ := by
  unfold strOfNums tz tl
  simp only [List.map_cons, List.map_nil]
  rw [show ((n : Int) % 256).toNat = n % 256 by omega, show ((n : Int) / 256 % 256).toNat = n / 256 % 256 by omega, show ((n : Int) / 65536 % 256).toNat = n / 65536 % 256 by omega, show ((n : Int) / 16777216).toNat = n / 16777216 by omega]
theorem conv_tail (w : World) (n : Nat) (t : TypeId) :
    (convert 45 9 (.slice (some ⟨w.heap.size, 0, none⟩) 4 4)).run Tryz.prog (w.alloc (.cells #[.int .u8 ((n : Int) % 256), .int .u8 ((n : Int) / 256 % 256), .int .u8 ((n : Int) / 65536 % 256), .int .u8 ((n : Int) / 16777216)] t)) = .ok (.string ⟨(tl n).toArray⟩) (w.alloc (.cells #[.int .u8 ((n : Int) % 256), .int .u8 ((n : Int) / 256 % 256), .int .u8 ((n : Int) / 65536 % 256), .int .u8 ((n : Int) / 16777216)] t)) := by
  rw [← str_tz n]
  exact run_convert_bytes_arg _ 45 5 Tryz.underlying45 Tryz.underlying5 w.heap.size 0 4 4 (tz n) rfl (fun i hi => by
    rw [World.cell?_alloc_at _ _ _ _ rfl, Nat.zero_add]
    match i, hi with
    | 0, _ | 1, _ | 2, _ | 3, _ => rfl) 9 Tryz.underlying9
theorem conv_tailN (w : World) (n : Nat) (t : TypeId) (N : Nat) :
    (convert 45 9 (.slice (some ⟨w.heap.size, 0, none⟩) 4 4)).run Tryz.prog ((w.alloc (.cells #[.int .u8 ((n : Int) % 256), .int .u8 ((n : Int) / 256 % 256), .int .u8 ((n : Int) / 65536 % 256), .int .u8 ((n : Int) / 16777216)] t)).drewN N) = .ok (.string ⟨(tl n).toArray⟩) ((w.alloc (.cells #[.int .u8 ((n : Int) % 256), .int .u8 ((n : Int) / 256 % 256), .int .u8 ((n : Int) / 65536 % 256), .int .u8 ((n : Int) / 16777216)] t)).drewN N) := by
  rw [← str_tz n]
  exact run_convert_bytes_arg _ 45 5 Tryz.underlying45 Tryz.underlying5 w.heap.size 0 4 4 (tz n) rfl (fun i hi => by
    show (w.alloc _).cell? _ = _
    rw [World.cell?_alloc_at _ _ _ _ rfl, Nat.zero_add]
    match i, hi with
    | 0, _ | 1, _ | 2, _ | 3, _ => rfl) 9 Tryz.underlying9
theorem rtail_any (n : Nat) (w : World) (hn : n < 4294967296) :
    Calls Tryz.prog 25 #[.int .u32 n] w fun e w' => e = .returned (.string ⟨(tl n).toArray⟩) ∧ Below w.heap.size w w' := by
  have hc := conv_tail w n 5
  go_enter Tryz.func25, Tryz.ntmps25
  go_wp2
  go_ret
  exact ⟨rfl, below_alloc _⟩

/-- What is sealed. -/
def sealL (l : List UInt8) : List UInt8 := l ++ tl (crc l)
def sealS (s : ByteArray) : ByteArray := s ++ ⟨(tl (crc s.data.toList)).toArray⟩
theorem sealS_list (s : ByteArray) : (sealS s).data.toList = sealL s.data.toList := by
  unfold sealS sealL
  rw [ByteArray.data_append, Array.toList_append]
theorem sealS_size (s : ByteArray) : (sealS s).size = s.size + 4 := by
  unfold sealS
  rw [ByteArray.size_append]
  rfl
end Go.Proofs.YtlimcimioeepaaaGreatDoor
set_option linter.unusedVariables false
namespace Go.Proofs.YtlimcimioeepaaaGreatDoor
open Go.RowKit Go.BigFrame

/-- A text's bytes ahead of its last four, and these. -/
def text (s : ByteArray) : ByteArray := s.extract 0 (s.size - 4)
def tail (s : ByteArray) : ByteArray := s.extract (s.size - 4) s.size
def sound (s : ByteArray) : Prop := 4 ≤ s.size ∧ tail s = ⟨(tl (crc (text s).data.toList)).toArray⟩

theorem str_beq {S T : ByteArray} (h : S ≠ T) : (S.toList == T.toList) = false := by
  rw [beq_eq_false_iff_ne]
  intro e
  apply h
  apply ByteArray.ext
  apply Array.toList_inj.mp
  rwa [ByteArray.toList_eq, ByteArray.toList_eq] at e
theorem str_ne {S T : ByteArray} (h : S ≠ T) : (S.toList != T.toList) = true := by
  unfold bne
  rw [str_beq h]
  rfl

theorem run_slice_string_hi (s : ByteArray) (W : World) (i : Int) (h0 : 0 ≤ i) (h1 : i ≤ s.size) :
    (Instr.slice 9 (.string s) (some (.int .i64 i)) none none).run Tryz.prog W = .ok (.string (s.extract i.toNat s.size)) W := by
  have hi : 0 ≤ i ∧ i ≤ ((s.size : Nat) : Int) := ⟨h0, h1⟩
  simp [Instr.slice, Instr.sliceBounds, Instr.sliceBound, asIntOf, run_underlying Tryz.underlying9, hi]
  done
theorem run_slice_string_lo (s : ByteArray) (W : World) (i : Int) (h0 : 0 ≤ i) (h1 : i ≤ s.size) :
    (Instr.slice 9 (.string s) none (some (.int .i64 i)) none).run Tryz.prog W = .ok (.string (s.extract 0 i.toNat)) W := by
  have hi : 0 ≤ i ∧ i ≤ ((s.size : Nat) : Int) := ⟨h0, h1⟩
  simp [Instr.slice, Instr.sliceBounds, Instr.sliceBound, asIntOf, run_underlying Tryz.underlying9, hi]
  done

set_option maxRecDepth 100000 in
set_option maxHeartbeats 2000000 in
theorem ropen_yes (s : ByteArray) (w : World) (hs : s.size ≤ 1000) (h : sound s) :
    Calls Tryz.prog 29 #[.string s] w fun e w' => e = .returned (.tuple #[.string (text s), .bool true]) ∧ Below w.heap.size w w' := by
  obtain ⟨h4, ht⟩ := h
  have hts : (text s).size ≤ 9223372036854775807 := by unfold text; rw [ByteArray.size_extract]; omega
  have C := Lib.hid (fun W => rsum_any (text s) W hts)
  have D := Lib.hid (fun W => rtail_any (crc (text s).data.toList) W (crc_lt _))
  rw [← ht] at D
  have g1 : decide (((s.size : Int) - 4) < 0) = false := by rw [decide_eq_false_iff_not]; omega
  have g2 : decide ((s.size : Int) < 4) = false := by rw [decide_eq_false_iff_not]; omega
  have g3 : decide (s.size < 4) = false := by rw [decide_eq_false_iff_not]; omega
  have e1 : ∀ W : World, (Instr.slice 9 (.string s) (some (.int .i64 ((s.size : Int) - 4))) none none).run Tryz.prog W = .ok (.string (tail s)) W := fun W => by
    have h := run_slice_string_hi s W ((s.size : Int) - 4) (by omega) (by omega)
    rwa [show ((s.size : Int) - 4).toNat = s.size - 4 by omega] at h
  have e2 : ∀ W : World, (Instr.slice 9 (.string s) none (some (.int .i64 ((s.size : Int) - 4))) none).run Tryz.prog W = .ok (.string (text s)) W := fun W => by
    have h := run_slice_string_lo s W ((s.size : Int) - 4) (by omega) (by omega)
    rwa [show ((s.size : Int) - 4).toNat = s.size - 4 by omega] at h
  obtain ⟨n, hn⟩ : ∃ n, n = crc (text s).data.toList := ⟨_, rfl⟩
  rw [← hn] at C D
  obtain ⟨T, hT⟩ : ∃ T, T = text s := ⟨_, rfl⟩
  obtain ⟨U, hU⟩ : ∃ U, U = tail s := ⟨_, rfl⟩
  rw [← hT] at C e2
  rw [← hU] at D e1
  have hne : (U.toList != U.toList) = false := by simp
  rw [← hT]
  clear hn ht hT hU hts
  go_enter Tryz.func29, Tryz.ntmps29
  go_wp2_with fail
  refine wp_region_near w.heap.size (by kernel_rfl) (by kernel_rfl) (Nat.le_refl _) ?_
  repeat (go_big_quiet_step (first
    | (go_at_call 26; exact near_same (C.out _))
    | (go_at_call 25; exact near_of (D.out _) (Nat.le_refl _))))
  refine wpQuiet_nil ?_
  intro W hW
  have HW := Lib.hid hW
  clear hW
  go_wp2
  go_ret2
  exact ⟨rfl, HW.out⟩
set_option maxRecDepth 100000 in
set_option maxHeartbeats 2000000 in
theorem ropen_other (s : ByteArray) (w : World) (hs : s.size ≤ 1000) (h4 : 4 ≤ s.size) (h : ¬ sound s) :
    Calls Tryz.prog 29 #[.string s] w fun e w' => e = .returned (.tuple #[.string ⟨#[]⟩, .bool false]) ∧ Below w.heap.size w w' := by
  have ht : tail s ≠ ⟨(tl (crc (text s).data.toList)).toArray⟩ := fun e => h ⟨h4, e⟩
  clear h
  have hts : (text s).size ≤ 9223372036854775807 := by unfold text; rw [ByteArray.size_extract]; omega
  have C := Lib.hid (fun W => rsum_any (text s) W hts)
  have D := Lib.hid (fun W => rtail_any (crc (text s).data.toList) W (crc_lt _))
  have g1 : decide (((s.size : Int) - 4) < 0) = false := by rw [decide_eq_false_iff_not]; omega
  have g2 : decide ((s.size : Int) < 4) = false := by rw [decide_eq_false_iff_not]; omega
  have g3 : decide (s.size < 4) = false := by rw [decide_eq_false_iff_not]; omega
  have e1 : ∀ W : World, (Instr.slice 9 (.string s) (some (.int .i64 ((s.size : Int) - 4))) none none).run Tryz.prog W = .ok (.string (tail s)) W := fun W => by
    have h := run_slice_string_hi s W ((s.size : Int) - 4) (by omega) (by omega)
    rwa [show ((s.size : Int) - 4).toNat = s.size - 4 by omega] at h
  have e2 : ∀ W : World, (Instr.slice 9 (.string s) none (some (.int .i64 ((s.size : Int) - 4))) none).run Tryz.prog W = .ok (.string (text s)) W := fun W => by
    have h := run_slice_string_lo s W ((s.size : Int) - 4) (by omega) (by omega)
    rwa [show ((s.size : Int) - 4).toNat = s.size - 4 by omega] at h
  obtain ⟨V, hV⟩ : ∃ V : ByteArray, V = ⟨(tl (crc (text s).data.toList)).toArray⟩ := ⟨_, rfl⟩
  rw [← hV] at D ht
  obtain ⟨n, hn⟩ : ∃ n, n = crc (text s).data.toList := ⟨_, rfl⟩
  rw [← hn] at C D
  obtain ⟨T, hT⟩ : ∃ T, T = text s := ⟨_, rfl⟩
  obtain ⟨U, hU⟩ : ∃ U, U = tail s := ⟨_, rfl⟩
  rw [← hT] at C e2
  rw [← hU] at e1 ht
  have hne := str_ne ht
  have hne2 := str_beq ht
  clear hn hT hU hV hts ht
  go_enter Tryz.func29, Tryz.ntmps29
  go_wp2_with fail
  refine wp_region_near w.heap.size (by kernel_rfl) (by kernel_rfl) (Nat.le_refl _) ?_
  repeat (go_big_quiet_step (first
    | (go_at_call 26; exact near_same (C.out _))
    | (go_at_call 25; exact near_of (D.out _) (Nat.le_refl _))))
  refine wpQuiet_nil ?_
  intro W hW
  have HW := Lib.hid hW
  clear hW
  go_wp2
  go_ret2
  exact ⟨rfl, HW.out⟩
theorem ropen_no (s : ByteArray) (w : World) (hs : s.size ≤ 1000) (h : ¬ sound s) :
    Calls Tryz.prog 29 #[.string s] w fun e w' => e = .returned (.tuple #[.string ⟨#[]⟩, .bool false]) ∧ Below w.heap.size w w' := by
  by_cases h4 : 4 ≤ s.size
  · exact ropen_other s w hs h4 h
  · have g1 : decide (((s.size : Int) - 4) < 0) = true := by rw [decide_eq_true_iff]; omega
    have g2 : decide ((s.size : Int) < 4) = true := by rw [decide_eq_true_iff]; omega
    have g3 : decide (s.size < 4) = true := by rw [decide_eq_true_iff]; omega
    clear h
    go_enter Tryz.func29, Tryz.ntmps29
    go_wp2_with fail
    go_quiet (fail)
    go_wp2
    go_ret2
    exact ⟨rfl, below_drewN (Below.refl _ _) _⟩
end Go.Proofs.YtlimcimioeepaaaGreatDoor
set_option linter.unusedVariables false
namespace Go.Proofs.YtlimcimioeepaaaGreatDoor
open Go.RowKit

/-- Bytes as a text. -/
def txt (l : List UInt8) : ByteArray := ⟨l.toArray⟩
theorem txt_add (a b : List UInt8) : txt a ++ txt b = txt (a ++ b) := by
  unfold txt
  apply ByteArray.ext
  rw [ByteArray.data_append]
  simp
theorem txt_list (l : List UInt8) : (txt l).data.toList = l := by unfold txt; simp
theorem txt_size (l : List UInt8) : (txt l).size = l.length := by rw [← txt_list l, ← ByteArray.size_data, Array.length_toList, txt_list]
/-- So wide that bytes hold it. -/
def Wid (k : Nat) (P : Int) : Prop := k = 1 ∧ P = 256 ∨ k = 2 ∧ P = 65536 ∨ k = 4 ∧ P = 4294967296
theorem Wid.pow {k : Nat} {P : Int} (h : Wid k P) : Pow k P := by
  rcases h with ⟨rfl, rfl⟩ | ⟨rfl, rfl⟩ | ⟨rfl, rfl⟩
  · exact .inl ⟨rfl, rfl⟩
  · exact .inr (.inl ⟨rfl, rfl⟩)
  · exact .inr (.inr (.inl ⟨rfl, rfl⟩))
theorem Wid.le_ {k : Nat} {P : Int} (h : Wid k P) : k ≤ 4 ∧ P ≤ 4294967296 := by rcases h with ⟨rfl, rfl⟩ | ⟨rfl, rfl⟩ | ⟨rfl, rfl⟩ <;> omega
theorem Wid.put {k : Nat} {P n : Int} (h : Wid k P) (h0 : 0 ≤ n) (h1 : n < P) : putL n k = u k n ∧ putE n k = 0 := by
  have hf : fits n k = true := (fits_iff h.pow).mpr ⟨h0, h1⟩
  exact ⟨putL_fine h.pow.wide hf, putE_fine h.pow.wide hf⟩
theorem cput_any {k : Nat} {P n : Int} (h : Wid k P) (h0 : 0 ≤ n) (h1 : n < P) (w : World) :
    Calls Tryz.prog 24 #[.int .i64 n, .int .i64 k] w fun e w' => e = .returned (.string (txt (u k n))) ∧ Below w.heap.size w w' := by
  have hn : n ≤ 9223372036854775807 := by rcases h with ⟨_, rfl⟩ | ⟨_, rfl⟩ | ⟨_, rfl⟩ <;> omega
  have C := Lib.hid (fun W => rput_any n k W hn)
  rw [(h.put h0 h1).1, (h.put h0 h1).2] at C
  clear h h0 h1 hn
  go_enter Tryz.func24, Tryz.ntmps24
  go_wp2_with fail
  refine (C.out _).mono ?_
  rintro e w' ⟨rfl, hb⟩
  have HB := Lib.hid hb
  clear hb
  go_wp2
  go_ret
  exact ⟨rfl, HB.out⟩
/-- Two texts, one behind the other. -/
theorem cat_eq {ρ : Operand → Value} {o : Oper} {x y : Operand} {a b : List UInt8} {w : World} (ho : o.op = .binOp .add 9 x y 9) (hx : ρ x = .string (txt a)) (hy : ρ y = .string (txt b)) (h : a.length + b.length ≤ 1000000) :
    (execOp ρ o).run Tryz.prog w = .ok (.value (.string (txt (a ++ b)))) w := by
  have hz : ¬ 9223372036854775807 < (txt a).size + (txt b).size := by rw [txt_size, txt_size]; omega
  simp [execOp, ho, hx, hy, hz, txt_add, go_sem]
end Go.Proofs.YtlimcimioeepaaaGreatDoor
set_option linter.unusedVariables false
namespace Go.Proofs.YtlimcimioeepaaaGreatDoor
open Go.RowKit

/-- Four steps, and the program's table of sixteen of them. -/
def st4 (n : Nat) : Nat := st (st (st (st n)))
def tabL : List Int := [0, 498536548, 997073096, 651767980, 1994146192, 1802195444, 1303535960, 1342533948, 3988292384, 4027552580, 3604390888, 3412177804, 2607071920, 2262029012, 2685067896, 3183342108]
theorem tab_st4 : ∀ r, r < 16 → tabL.getD r 0 = (st4 r : Int) := by decide
theorem st8_st4 (n : Nat) : st8 n = st4 (st4 n) := rfl
theorem st4_lt {n : Nat} (h : n < 4294967296) : st4 n < 4294967296 := st_lt (st_lt (st_lt (st_lt h)))
theorem st4_xor (a b : Nat) : st4 (a ^^^ b) = st4 a ^^^ st4 b := by
  unfold st4
  simp only [st_xor]
theorem st4_16 (n : Nat) : st4 (16 * n) = n := by
  rw [show 16 * n = 2 * (2 * (2 * (2 * n))) by omega]
  unfold st4
  simp only [st_even]
theorem split_16 (n : Nat) : n = n % 16 ^^^ 16 * (n / 16) := by
  apply Nat.eq_of_testBit_eq
  intro i
  rw [Nat.testBit_xor, show (16 : Nat) = 2 ^ 4 from rfl, Nat.testBit_mod_two_pow, Nat.testBit_two_pow_mul, Nat.testBit_div_two_pow]
  by_cases h : i < 4
  · simp [h, show ¬ 4 ≤ i by omega]
  · simp [h, show 4 ≤ i by omega]
theorem st4_table (n : Nat) : n / 16 ^^^ st4 (n % 16) = st4 n := by
  conv => rhs; rw [split_16 n]
  rw [st4_xor, st4_16, Nat.xor_comm]

/-- The program's table holds its numbers. -/
def Tab (w : World) : Prop := ∀ j, j < 16 → w.cell? ⟨1, j, none⟩ = some (.int .u32 (tabL.getD j 0))
theorem Tab.below {w w' : World} {B : Nat} (h : Tab w) (hb : Below B w w') (hB : 1 < B) : Tab w' := fun j hj => (hb.cell (p := ⟨1, j, none⟩) hB).trans (h j hj)
theorem cell_lt {w : World} {b off : Nat} {v : Value} (h : w.cell? ⟨b, off, none⟩ = some v) : b < w.heap.size := by
  rcases Nat.lt_or_ge b w.heap.size with hlt | hge
  · exact hlt
  · unfold World.cell? at h
    simp [Array.getElem?_eq_none hge] at h
theorem Tab.lt {w : World} (h : Tab w) : 1 < w.heap.size := cell_lt (h 0 (by decide))
theorem Tab.step {w : World} (h : Tab w) (n : Nat) : w.cell? ⟨1, n % 16, none⟩ = some (.int .u32 (st4 (n % 16) : Nat)) := by
  rw [h _ (Nat.mod_lt _ (by omega)), tab_st4 _ (Nat.mod_lt _ (by omega))]

theorem step_any (n : Nat) (w : World) (hn : n < 4294967296) (hT : Tab w) :
    Calls Tryz.prog 122 #[.int .u32 n] w fun e w' => e = .returned (.int .u32 (st4 n : Nat)) ∧ w = w' := by
  have hc := hT.step n
  have hr : n % 16 < 16 := Nat.mod_lt _ (by omega)
  have ha : bits .and .u32 (n : Int) 15 = ((n % 16 : Nat) : Int) := by
    rw [show (15 : Int) = ((15 : Nat) : Int) from rfl, u32_and_nat n 15 hn (by omega), nat_mask4]
  have hx : bits .xor .u32 ((n : Int) / 16) ((st4 (n % 16) : Nat) : Int) = ((st4 n : Nat) : Int) := by
    have h := u32_xor_nat (n / 16) (st4 (n % 16)) (by omega) (st4_lt (by omega))
    rw [st4_table] at h
    rw [← h]
    rfl
  clear hT
  go_enter Tryz.func122, Tryz.ntmps122
  go_wp2
  go_ret
  exact ⟨rfl, rfl⟩
end Go.Proofs.YtlimcimioeepaaaGreatDoor
set_option linter.unusedVariables false
namespace Go.Proofs.YtlimcimioeepaaaGreatDoor
open Go.RowKit

set_option maxRecDepth 100000 in
set_option maxHeartbeats 1000000 in
theorem more_any (x : Nat) (s : ByteArray) (w : World) (hx : x < 4294967296) (hs : s.size ≤ 9223372036854775807) (hT : Tab w) :
    Calls Tryz.prog 84 #[.int .u32 x, .string s] w fun e w' => e = .returned (.int .u32 (more x s.data.toList : Nat)) ∧ w = w' := by
  have HT := Lib.hid hT
  have HS : Hid (s.data.toList.length = s.size) := Lib.hid rfl
  have h0 := ones_xor x hx
  have h0' := ones_xor' x hx
  have hy : x ^^^ 4294967295 < 4294967296 := xor_lt hx (by omega)
  have HM : Hid (more x s.data.toList = run (x ^^^ 4294967295) s.data.toList ^^^ 4294967295) := Lib.hid rfl
  obtain ⟨y, hye⟩ : ∃ y, y = x ^^^ 4294967295 := ⟨_, rfl⟩
  rw [← hye] at h0 h0' hy HM
  clear hT hye
  go_enter Tryz.func84, Tryz.ntmps84
  go_wp2
  go_loop [5, 11] (fun n i => ∃ j q : Nat, j ≤ s.size ∧ i = .int .i64 j ∧ q < 4294967296 ∧ Hid (q = run y (s.data.toList.take j)) ∧ n = .int .u32 q) (fun _ i => s.size - (intOf i).toNat)
  case atStart => exact ⟨0, y, Nat.zero_le _, rfl, hy, Lib.hid rfl, rfl⟩
  case round =>
    obtain ⟨j, q, hj, rfl, hq, hqe, rfl⟩ := hrel
    by_cases hlt : j < s.size
    · have hb := s[j].toNat_lt
      have hxx := u32_xor_nat q s[j].toNat hq (by omega)
      have hz : q ^^^ s[j].toNat < 4294967296 := xor_lt hq (by omega)
      have HU := Lib.hid (show st4 (st4 (q ^^^ s[j].toNat)) = run y (s.data.toList.take (j + 1)) by
        rw [run_snoc _ _ _ (by rw [HS.out]; exact hlt), ← hqe.out]
        rfl)
      have C1 := Lib.hid (fun W => step_any (q ^^^ s[j].toNat) W hz)
      have C2 := Lib.hid (fun W => step_any (st4 (q ^^^ s[j].toNat)) W (st4_lt hz))
      obtain ⟨z, hze⟩ : ∃ z, z = st4 (st4 (q ^^^ s[j].toNat)) := ⟨_, rfl⟩
      have hzl : z < 4294967296 := hze ▸ st4_lt (st4_lt hz)
      rw [← hze] at HU C2
      clear hze
      go_wp2_with fail
      refine (C1.out _ HT.out).mono ?_
      rintro e w1 ⟨rfl, rfl⟩
      go_wp2_with fail
      refine (C2.out _ HT.out).mono ?_
      rintro e w1 ⟨rfl, rfl⟩
      go_wp2
      go_round
      case rel => exact ⟨j + 1, z, by omega, by go_num, hzl, HU, rfl⟩
      case measure => simp [intOf]; omega
    · obtain rfl : j = s.size := by omega
      have hl : s.data.toList.take s.size = s.data.toList := List.take_of_length_le (by rw [HS.out]; omega)
      have h1 := ones_xor q hq
      have h1' := ones_xor' q hq
      rw [hl] at hqe
      rw [← hqe.out] at HM
      go_wp2
      go_ret
      exact ⟨by rw [HM.out]; rfl, rfl⟩
theorem sum_any (s : ByteArray) (w : World) (hs : s.size ≤ 9223372036854775807) (hT : Tab w) :
    Calls Tryz.prog 49 #[.string s] w fun e w' => e = .returned (.int .u32 (crc s.data.toList : Nat)) ∧ w = w' := by
  have C := Lib.hid (fun W => more_any 0 s W (by omega) hs)
  rw [show more 0 s.data.toList = crc s.data.toList from by unfold more crc; rw [Nat.zero_xor]] at C
  go_enter Tryz.func49, Tryz.ntmps49
  go_wp2_with fail
  refine (C.out _ hT).mono ?_
  rintro e w1 ⟨rfl, rfl⟩
  go_wp2
  go_ret
  exact ⟨rfl, rfl⟩
end Go.Proofs.YtlimcimioeepaaaGreatDoor
set_option linter.unusedVariables false
namespace Go.Proofs.YtlimcimioeepaaaGreatDoor
open Go.RowKit

theorem spell_any (n : Nat) (w : World) (hn : n < 4294967296) :
    Calls Tryz.prog 48 #[.int .u32 n] w fun e w' => e = .returned (.agg #[.int .u8 ((n : Int) % 256), .int .u8 ((n : Int) / 256 % 256), .int .u8 ((n : Int) / 65536 % 256), .int .u8 ((n : Int) / 16777216)]) ∧ Below w.heap.size w w' := by
  go_enter Tryz.func48, Tryz.ntmps48
  go_wp2
  refine wp_loop_rounds 5 ?_
  iterate 5 (rw [rounds_succ]; go_wp2)
  exact bodyPost_ret (by simp [results, Tryz.results48, go_sem]) rfl ⟨rfl, ((Below.refl _ _).alloc (Nat.le_refl _) _).alloc (by simp) _⟩
theorem seal_any (s : ByteArray) (w : World) (hs : s.size ≤ 1000) (hT : Tab w) :
    Calls Tryz.prog 21 #[.string s] w fun e w' => e = .returned (.string (sealS s)) ∧ Below w.heap.size w w' := by
  have C := Lib.hid (fun W => sum_any s W (by omega))
  have hz : ∀ n, (⟨(tl n).toArray⟩ : ByteArray).size = 4 := fun _ => rfl
  have D := Lib.hid (fun W => spell_any (crc s.data.toList) W (crc_lt _))
  have HE : Hid (sealS s = s ++ ⟨(tl (crc s.data.toList)).toArray⟩) := Lib.hid rfl
  obtain ⟨n, hn⟩ : ∃ n, n = crc s.data.toList := ⟨_, rfl⟩
  rw [← hn] at C D HE
  clear hn
  go_enter Tryz.func21, Tryz.ntmps21
  go_wp2_with fail
  refine (C.out _ hT).mono ?_
  rintro e w1 ⟨rfl, rfl⟩
  go_wp2_with fail
  refine (D.out _).mono ?_
  rintro e w1 ⟨rfl, b1⟩
  have HB := Lib.hid b1
  have hc := conv_tail w1 n 90
  have hz := hz n
  clear b1
  go_wp2
  go_ret
  exact ⟨by rw [HE.out]; rfl, HB.out.trans ((below_alloc _).mono HB.out.size)⟩
end Go.Proofs.YtlimcimioeepaaaGreatDoor
