/- The plain arithmetic of the layer crc in the seat YtjngnejmgfncnaaDoor: the sum bit by bit, that it is linear, that turned bits are told. No statement is proved here; it imports nothing of the program. -/
import Derived.Lib.Hide
set_option linter.unusedVariables false
namespace Go.Proofs.YtjngnejmgfncnaaDoor

/-- One bit, eight bits, one byte, many bytes. -/
def st (n : Nat) : Nat := if n % 2 = 1 then n / 2 ^^^ 3988292384 else n / 2
def st8 (n : Nat) : Nat := st (st (st (st (st (st (st (st n)))))))
def up (n b : Nat) : Nat := st8 (n ^^^ b)
def run (n : Nat) (l : List UInt8) : Nat := l.foldl (fun n b => up n b.toNat) n
def crc (l : List UInt8) : Nat := run 4294967295 l ^^^ 4294967295
def more (s : Nat) (l : List UInt8) : Nat := run (s ^^^ 4294967295) l ^^^ 4294967295

theorem xor_lt {a b : Nat} (ha : a < 4294967296) (hb : b < 4294967296) : a ^^^ b < 4294967296 := Nat.xor_lt_two_pow (n := 32) ha hb
theorem st_lt {n : Nat} (h : n < 4294967296) : st n < 4294967296 := by
  unfold st
  split
  · exact xor_lt (by omega) (by omega)
  · omega
theorem st8_lt {n : Nat} (h : n < 4294967296) : st8 n < 4294967296 := st_lt (st_lt (st_lt (st_lt (st_lt (st_lt (st_lt (st_lt h)))))))
theorem up_lt {n b : Nat} (h : n < 4294967296) (hb : b < 256) : up n b < 4294967296 := st8_lt (xor_lt h (by omega))
theorem run_lt : ∀ (l : List UInt8) (n : Nat), n < 4294967296 → run n l < 4294967296
  | [], _, h => h
  | b :: l, n, h => run_lt l _ (up_lt h b.toNat_lt)
theorem crc_lt (l : List UInt8) : crc l < 4294967296 := xor_lt (run_lt l _ (by omega)) (by omega)
theorem more_lt {s : Nat} (h : s < 4294967296) (l : List UInt8) : more s l < 4294967296 := xor_lt (run_lt l _ (xor_lt h (by omega))) (by omega)
theorem xor_xor (a b : Nat) : a ^^^ b ^^^ b = a := by rw [Nat.xor_assoc, Nat.xor_self, Nat.xor_zero]
theorem run_append (n : Nat) (a b : List UInt8) : run n (a ++ b) = run (run n a) b := by unfold run; rw [List.foldl_append]
theorem more_crc (a b : List UInt8) : more (crc a) b = crc (a ++ b) := by
  unfold more crc
  rw [xor_xor, run_append]
theorem more_nil (s : Nat) : more s [] = s := xor_xor s _

/-- The step is linear. -/
theorem half_xor (a b : Nat) : (a ^^^ b) / 2 = a / 2 ^^^ b / 2 := by
  have h := Nat.xor_div_two_pow (a := a) (b := b) (n := 1)
  simpa using h
theorem odd_xor (a b : Nat) : (a ^^^ b) % 2 = (a % 2 + b % 2) % 2 := by
  have h := Nat.xor_mod_two_pow (a := a) (b := b) (n := 1)
  have e : (a ^^^ b) % 2 = (a % 2) ^^^ (b % 2) := by simpa using h
  rw [e]
  have ha : a % 2 = 0 ∨ a % 2 = 1 := by omega
  have hb : b % 2 = 0 ∨ b % 2 = 1 := by omega
  rcases ha with ha | ha <;> rcases hb with hb | hb <;> rw [ha, hb] <;> decide
theorem st_xor (a b : Nat) : st (a ^^^ b) = st a ^^^ st b := by
  unfold st
  rw [half_xor, odd_xor]
  have ha : a % 2 = 0 ∨ a % 2 = 1 := by omega
  have hb : b % 2 = 0 ∨ b % 2 = 1 := by omega
  rcases ha with ha | ha <;> rcases hb with hb | hb <;> simp only [ha, hb]
  · simp
  · simp [Nat.xor_assoc]
  · simp
    rw [Nat.xor_assoc, Nat.xor_assoc, Nat.xor_comm 3988292384]
  · have e : a / 2 ^^^ 3988292384 ^^^ (b / 2 ^^^ 3988292384) = a / 2 ^^^ b / 2 := by
      rw [Nat.xor_comm (b / 2), ← Nat.xor_assoc, xor_xor]
    simp [e]
theorem st8_xor (a b : Nat) : st8 (a ^^^ b) = st8 a ^^^ st8 b := by
  unfold st8
  simp only [st_xor]
theorem up_xor (a b c d : Nat) : up (a ^^^ c) (b ^^^ d) = up a b ^^^ up c d := by
  unfold up
  rw [← st8_xor]
  congr 1
  rw [Nat.xor_assoc, ← Nat.xor_assoc c b d, Nat.xor_comm c b, Nat.xor_assoc b c d, ← Nat.xor_assoc]
theorem st_zero {n : Nat} (h : n < 4294967296) (e : st n = 0) : n = 0 := by
  unfold st at e
  by_cases ho : n % 2 = 1
  · rw [if_pos ho] at e
    have e2 : n / 2 = 3988292384 := by
      have := congrArg (· ^^^ 3988292384) e
      simpa [xor_xor] using this
    omega
  · rw [if_neg ho] at e; omega
theorem st8_zero {n : Nat} (h : n < 4294967296) (e : st8 n = 0) : n = 0 := by
  unfold st8 at e
  have a1 := st_lt h
  have a2 := st_lt a1
  have a3 := st_lt a2
  have a4 := st_lt a3
  have a5 := st_lt a4
  have a6 := st_lt a5
  have a7 := st_lt a6
  exact st_zero h (st_zero a1 (st_zero a2 (st_zero a3 (st_zero a4 (st_zero a5 (st_zero a6 (st_zero a7 e)))))))
theorem st8_nil : st8 0 = 0 := by decide
theorem st_even (n : Nat) : st (2 * n) = n := by unfold st; rw [if_neg (by omega)]; omega
theorem st8_256 (n : Nat) : st8 (256 * n) = n := by
  rw [show 256 * n = 2 * (2 * (2 * (2 * (2 * (2 * (2 * (2 * n))))))) by omega]
  unfold st8
  simp only [st_even]
/-- A number's lowest byte, and what stands above it. -/
theorem split_256 (n : Nat) : n = n % 256 ^^^ 256 * (n / 256) := by
  apply Nat.eq_of_testBit_eq
  intro i
  rw [Nat.testBit_xor, show (256 : Nat) = 2 ^ 8 from rfl, Nat.testBit_mod_two_pow, Nat.testBit_two_pow_mul, Nat.testBit_div_two_pow]
  by_cases h : i < 8
  · simp [h, show ¬ 8 ≤ i by omega]
  · simp [h, show 8 ≤ i by omega]
/-- The step of a table of 256 numbers. -/
theorem up_table (n b : Nat) (hb : b < 256) : up n b = st8 ((n ^^^ b) % 256) ^^^ n / 256 := by
  unfold up
  conv => lhs; rw [split_256 (n ^^^ b)]
  rw [st8_xor, st8_256]
  congr 1
  have h := Nat.xor_div_two_pow (a := n) (b := b) (n := 8)
  have e : (n ^^^ b) / 256 = n / 256 ^^^ b / 256 := by simpa using h
  rw [e, Nat.div_eq_of_lt hb, Nat.xor_zero]

/-- What two texts of one length differ in, run by itself. -/
def drun (d : Nat) : List Nat → Nat
  | [] => d
  | x :: l => drun (up d x) l
theorem run_diff : ∀ (a b : List UInt8) (n m : Nat), a.length = b.length → run n a ^^^ run m b = drun (n ^^^ m) (List.zipWith (fun x y => x.toNat ^^^ y.toNat) a b)
  | [], [], n, m, _ => rfl
  | [], _ :: _, _, _, h => by simp at h
  | _ :: _, [], _, _, h => by simp at h
  | x :: a, y :: b, n, m, h => by
    have ih := run_diff a b (up n x.toNat) (up m y.toNat) (by simpa using h)
    show run (up n x.toNat) a ^^^ run (up m y.toNat) b = drun (up (n ^^^ m) (x.toNat ^^^ y.toNat)) _
    rw [ih, up_xor]
theorem drun_append (d : Nat) : ∀ (a b : List Nat), drun d (a ++ b) = drun (drun d a) b := by
  intro a
  induction a generalizing d with
  | nil => intro b; rfl
  | cons x a ih => intro b; exact ih (up d x) b
theorem drun_zeros : ∀ (k d : Nat), d < 4294967296 → (drun d (List.replicate k 0) = 0 ↔ d = 0)
  | 0, d, _ => Iff.rfl
  | k + 1, d, h => by
    have h1 := up_lt h (b := 0) (by omega)
    rw [List.replicate_succ]
    show drun (up d 0) (List.replicate k 0) = 0 ↔ d = 0
    rw [drun_zeros k _ h1]
    unfold up
    rw [Nat.xor_zero]
    exact ⟨st8_zero h, fun e => by rw [e, st8_nil]⟩
theorem drun_ahead : ∀ k : Nat, drun 0 (List.replicate k 0) = 0
  | 0 => rfl
  | k + 1 => by
    rw [List.replicate_succ]
    show drun (up 0 0) (List.replicate k 0) = 0
    rw [show up 0 0 = 0 by decide]
    exact drun_ahead k
/-- Four bytes one behind the other, of a number of 32 bits, are that number's 32 steps: so they come to nothing just if all are nought. -/
theorem four_steps (x : Nat) : drun 0 [x % 256, x / 256 % 256, x / 65536 % 256, x / 16777216 % 256] = st8 (st8 (st8 (st8 (x % 4294967296)))) := by
  have key : ∀ d z : Nat, st8 (d ^^^ z) = up d (z % 256) ^^^ z / 256 := by
    intro d z
    conv => lhs; rw [split_256 z]
    rw [← Nat.xor_assoc, st8_xor, st8_256]
    rfl
  have e0 : x % 4294967296 / 256 / 256 / 256 / 256 = 0 := by omega
  have h1 := key 0 (x % 4294967296)
  rw [Nat.zero_xor] at h1
  have h2 := key (up 0 (x % 4294967296 % 256)) (x % 4294967296 / 256)
  have h3 := key (up (up 0 (x % 4294967296 % 256)) (x % 4294967296 / 256 % 256)) (x % 4294967296 / 256 / 256)
  have h4 := key (up (up (up 0 (x % 4294967296 % 256)) (x % 4294967296 / 256 % 256)) (x % 4294967296 / 256 / 256 % 256)) (x % 4294967296 / 256 / 256 / 256)
  rw [h1, h2, h3, h4, e0, Nat.xor_zero]
  rw [show x % 4294967296 % 256 = x % 256 by omega, show x % 4294967296 / 256 % 256 = x / 256 % 256 by omega, show x % 4294967296 / 256 / 256 % 256 = x / 65536 % 256 by omega, show x % 4294967296 / 256 / 256 / 256 % 256 = x / 16777216 % 256 by omega]
  rfl
theorem four_zero {x : Nat} (hx : x < 4294967296) : drun 0 [x % 256, x / 256 % 256, x / 65536 % 256, x / 16777216 % 256] = 0 ↔ x = 0 := by
  rw [four_steps, Nat.mod_eq_of_lt hx]
  constructor
  · intro h
    exact st8_zero hx (st8_zero (st8_lt hx) (st8_zero (st8_lt (st8_lt hx)) (st8_zero (st8_lt (st8_lt (st8_lt hx))) h)))
  · rintro rfl
    decide
/-- Bits that are turned within four bytes that stand together are told. -/
theorem turned (n i j x : Nat) (a b : List UInt8) (hx : x < 4294967296) (hl : a.length = b.length)
    (hd : List.zipWith (fun u v : UInt8 => u.toNat ^^^ v.toNat) a b = List.replicate i 0 ++ ([x % 256, x / 256 % 256, x / 65536 % 256, x / 16777216 % 256] ++ List.replicate j 0)) :
    run n a = run n b ↔ x = 0 := by
  have h := run_diff a b n n hl
  rw [Nat.xor_self, hd, drun_append, drun_ahead, drun_append] at h
  have hlt : drun 0 [x % 256, x / 256 % 256, x / 65536 % 256, x / 16777216 % 256] < 4294967296 := by
    rw [four_steps]
    exact st8_lt (st8_lt (st8_lt (st8_lt (Nat.mod_lt _ (by omega)))))
  have hz := drun_zeros j _ hlt
  rw [← h, four_zero hx] at hz
  rw [← hz]
  constructor
  · intro e; rw [e, Nat.xor_self]
  · intro e
    have e2 := congrArg (· ^^^ run n b) e
    simpa [xor_xor] using e2
end Go.Proofs.YtjngnejmgfncnaaDoor
