import Derived.Laws.BitsAllLaws
import Derived.IntWalk
/-! Plain mathematics of the sums: registers as numbers, the shift by a bit, and its linearity. -/
namespace Go.Proofs.Ytlmhlinjlneagaa
/-- the polynomial -/
def pol : Nat := 2197175160
/-- all bits of a register -/
def ones : Nat := 4294967295
/-- a register is shifted by one bit -/
def shN (n : Nat) : Nat := if n % 2 = 1 then (n / 2) ^^^ pol else n / 2
/-- .. by k bits -/
def shk : Nat → Nat → Nat
  | 0, n => n
  | k + 1, n => shk k (shN n)
/-- bytes run through a register -/
def reg : Nat → List UInt8 → Nat
  | c, [] => c
  | c, b :: l => reg (shk 8 (c ^^^ b.toNat)) l
/-- the sum of the bytes whose sum is given, followed by others -/
def crc (sum : Nat) (l : List UInt8) : Nat := reg (sum ^^^ ones) l ^^^ ones

theorem shN_lt {n : Nat} (h : n < 4294967296) : shN n < 4294967296 := by
  unfold shN
  split
  · exact Nat.xor_lt_two_pow (n := 32) (by omega) (by decide)
  · omega
theorem shk_lt (k : Nat) : ∀ {n : Nat}, n < 4294967296 → shk k n < 4294967296 := by
  induction k with
  | zero => intro n h; exact h
  | succ k ih => intro n h; exact ih (shN_lt h)
theorem xor_lt {a b : Nat} (ha : a < 4294967296) (hb : b < 4294967296) : a ^^^ b < 4294967296 := Nat.xor_lt_two_pow (n := 32) ha hb
theorem byte_lt (b : UInt8) : b.toNat < 4294967296 := Nat.lt_of_lt_of_le b.toNat_lt (by decide)
theorem reg_lt (l : List UInt8) : ∀ {c : Nat}, c < 4294967296 → reg c l < 4294967296 := by
  induction l with
  | nil => intro c h; exact h
  | cons b l ih => intro c h; exact ih (shk_lt 8 (xor_lt h (byte_lt b)))
theorem crc_lt {sum : Nat} (l : List UInt8) (h : sum < 4294967296) : crc sum l < 4294967296 := xor_lt (reg_lt l (xor_lt h (by decide))) (by decide)

theorem xor_swap (a b c d : Nat) : (a ^^^ b) ^^^ (c ^^^ d) = (a ^^^ c) ^^^ (b ^^^ d) := by
  rw [Nat.xor_assoc, Nat.xor_assoc, ← Nat.xor_assoc b c d, Nat.xor_comm b c, Nat.xor_assoc c b d]
theorem shN_xor (a b : Nat) : shN (a ^^^ b) = shN a ^^^ shN b := by
  have hm : (a ^^^ b) % 2 = (a % 2 + b % 2) % 2 := by
    have h0 : (a ^^^ b) % 2 = (a % 2) ^^^ (b % 2) := Nat.xor_mod_two_pow (n := 1)
    rcases Nat.mod_two_eq_zero_or_one a with ha | ha <;> rcases Nat.mod_two_eq_zero_or_one b with hb | hb <;> rw [h0, ha, hb] <;> rfl
  have hd : (a ^^^ b) / 2 = a / 2 ^^^ b / 2 := Nat.xor_div_two
  unfold shN
  rw [hd]
  rcases Nat.mod_two_eq_zero_or_one a with ha | ha <;> rcases Nat.mod_two_eq_zero_or_one b with hb | hb
  · rw [if_neg (by omega), if_neg (by omega), if_neg (by omega)]
  · rw [if_pos (by omega), if_neg (by omega), if_pos (by omega), Nat.xor_assoc]
  · rw [if_pos (by omega), if_pos (by omega), if_neg (by omega), Nat.xor_assoc, Nat.xor_assoc, Nat.xor_comm pol]
  · rw [if_neg (by omega), if_pos (by omega), if_pos (by omega), xor_swap, Nat.xor_self, Nat.xor_zero]
theorem shk_xor (k : Nat) : ∀ a b, shk k (a ^^^ b) = shk k a ^^^ shk k b := by
  induction k with
  | zero => intro a b; rfl
  | succ k ih => intro a b; rw [shk, shN_xor, ih]; rfl
theorem shk_zero (k : Nat) : shk k 0 = 0 := by
  induction k with
  | zero => rfl
  | succ k ih => rw [shk]; exact ih
theorem shk_add (i : Nat) : ∀ j n, shk (i + j) n = shk j (shk i n) := by
  induction i with
  | zero => intro j n; rw [Nat.zero_add]; rfl
  | succ i ih => intro j n; rw [show i + 1 + j = (i + j) + 1 by omega, shk, ih]; rfl
theorem shk_mul (k : Nat) : ∀ q, shk k (q * 2 ^ k) = q := by
  induction k with
  | zero => intro q; simp [shk]
  | succ k ih =>
    intro q
    rw [shk]
    have : shN (q * 2 ^ (k + 1)) = q * 2 ^ k := by
      unfold shN
      rw [Nat.pow_succ, ← Nat.mul_assoc, if_neg (by omega)]
      omega
    rw [this, ih]
theorem shN_eq_zero {a : Nat} (h : a < 4294967296) (h0 : shN a = 0) : a = 0 := by
  unfold shN at h0
  split at h0
  · have : a / 2 = pol := by
      have := congrArg (· ^^^ pol) h0
      simpa [Nat.xor_assoc] using this
    unfold pol at this
    omega
  · omega
theorem shk_eq_zero (k : Nat) : ∀ {a : Nat}, a < 4294967296 → shk k a = 0 → a = 0 := by
  induction k with
  | zero => intro a _ h; exact h
  | succ k ih => intro a h h0; exact shN_eq_zero h (ih (shN_lt h) h0)
/-- four bits at once, by a table of what is left of them -/
theorem nibble (r : Nat) : r / 16 ^^^ shk 4 (r % 16) = shk 4 r := by
  have e : r = (r / 16 * 2 ^ 4) ^^^ (r % 16) := by
    have h := Nat.two_pow_add_eq_or_of_lt (i := 4) (b := r % 16) (by omega) (r / 16)
    have h2 : 2 ^ 4 * (r / 16) ^^^ r % 16 = 2 ^ 4 * (r / 16) ||| r % 16 := by
      apply Nat.eq_of_testBit_eq
      intro i
      rw [Nat.testBit_xor, Nat.testBit_or]
      by_cases hi : i < 4
      · have : (2 ^ 4 * (r / 16)).testBit i = false := by
          rw [Nat.testBit_two_pow_mul]; simp; omega
        rw [this]; simp
      · have : (r % 16).testBit i = false := Nat.testBit_lt_two_pow (Nat.lt_of_lt_of_le (show r % 16 < 2 ^ 4 by omega) (Nat.pow_le_pow_right (by decide) (by omega)))
        rw [this]; simp
    rw [Nat.mul_comm (r / 16), h2, ← h]
    omega
  conv => rhs; rw [e, shk_xor, shk_mul]
theorem shk8 (r : Nat) : shk 8 r = shk 4 (shk 4 r) := shk_add 4 4 r
end Go.Proofs.Ytlmhlinjlneagaa
