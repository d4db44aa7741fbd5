import Derived.Test.YtlmhlinjlneagaaCrcM1
/-! Plain mathematics: the product of registers, and what combining sums comes to. -/
namespace Go.Proofs.Ytlmhlinjlneagaa
attribute [local irreducible] shk
/-- the first k steps of the product of two registers -/
def mulS : Nat → Nat → Nat → Nat
  | 0, _, _ => 0
  | k + 1, a, b => mulS k a b ^^^ (if a.testBit (31 - k) then shk k b else 0)
/-- the coefficient of the power 0 -/
def unit : Nat := 2147483648
theorem mulS_lt (k : Nat) (a : Nat) {b : Nat} (hb : b < 4294967296) : mulS k a b < 4294967296 := by
  induction k with
  | zero => show (0 : Nat) < _; omega
  | succ k ih => exact xor_lt ih (by split; exact shk_lt k hb; omega)
theorem mulS_right (k a b c : Nat) : mulS k a (b ^^^ c) = mulS k a b ^^^ mulS k a c := by
  induction k with
  | zero => simp [mulS]
  | succ k ih =>
    rw [mulS, mulS, mulS, ih, xor_swap]
    congr 1
    split
    · exact shk_xor k b c
    · rfl
theorem shk_comm (i j n : Nat) : shk i (shk j n) = shk j (shk i n) := by rw [← shk_add, ← shk_add, Nat.add_comm]
theorem mulS_shk (i k a b : Nat) : mulS k a (shk i b) = shk i (mulS k a b) := by
  induction k with
  | zero => exact (shk_zero i).symm
  | succ k ih =>
    rw [mulS, mulS, ih, shk_xor]
    congr 1
    split
    · exact shk_comm k i b
    · exact (shk_zero i).symm
theorem mulS_mulS (j k a b c : Nat) : mulS j a (mulS k b c) = mulS k b (mulS j a c) := by
  induction k with
  | zero =>
    show mulS j a 0 = 0
    have := mulS_right j a 0 0
    rw [Nat.xor_self, Nat.xor_self] at this
    exact this
  | succ k ih =>
    rw [mulS, mulS, mulS_right, ih]
    congr 1
    split
    · exact mulS_shk k j a c
    · have := mulS_right j a 0 0
      rw [Nat.xor_self, Nat.xor_self] at this
      exact this
theorem shk_unit (k : Nat) (hk : k ≤ 31) : shk k unit = 2 ^ (31 - k) := by
  have h := shk_mul k (2 ^ (31 - k))
  rw [← Nat.pow_add, show 31 - k + k = 31 by omega] at h
  exact h
theorem mulS_unit_bit (a : Nat) (k : Nat) (hk : k ≤ 32) (i : Nat) (hi : i < 32) : (mulS k a unit).testBit i = (decide (31 - i < k) && a.testBit i) := by
  induction k with
  | zero => simp [mulS]
  | succ k ih =>
    rw [mulS, Nat.testBit_xor, ih (by omega)]
    have e : (if a.testBit (31 - k) then shk k unit else 0).testBit i = (decide (31 - i = k) && a.testBit i) := by
      by_cases hik : 31 - i = k
      · have : 31 - k = i := by omega
        rw [this, decide_eq_true hik]
        split
        · rename_i h; rw [shk_unit k (by omega), this, Nat.testBit_two_pow_self, h]; rfl
        · rename_i h; simp at h; simp [h]
      · rw [decide_eq_false hik]
        split
        · rw [shk_unit k (by omega), Nat.testBit_two_pow_of_ne (by omega)]; rfl
        · simp
    rw [e]
    by_cases h1 : 31 - i < k
    · rw [decide_eq_true h1, decide_eq_false (by omega), decide_eq_true (by omega)]; simp
    · by_cases h2 : 31 - i = k
      · rw [decide_eq_false h1, decide_eq_true h2, decide_eq_true (by omega)]; simp
      · rw [decide_eq_false h1, decide_eq_false h2, decide_eq_false (by omega)]; simp
theorem mulS_unit (a : Nat) (ha : a < 4294967296) : mulS 32 a unit = a := by
  apply Nat.eq_of_testBit_eq
  intro i
  by_cases hi : i < 32
  · rw [mulS_unit_bit a 32 (Nat.le_refl _) i hi, decide_eq_true (by omega)]; simp
  · have h (x : Nat) (hx : x < 4294967296) : x.testBit i = false := Nat.testBit_lt_two_pow (Nat.lt_of_lt_of_le (show x < 2 ^ 32 from hx) (Nat.pow_le_pow_right (by decide) (by omega)))
    rw [h a ha, h _ (mulS_lt 32 a (by decide))]
theorem mul_comm (a b : Nat) (ha : a < 4294967296) (hb : b < 4294967296) : mulS 32 a b = mulS 32 b a := by
  have h := mulS_mulS 32 32 a b unit
  rw [mulS_unit a ha, mulS_unit b hb] at h
  exact h
theorem mul_power (a m : Nat) (ha : a < 4294967296) : mulS 32 a (shk m unit) = shk m a := by
  rw [mulS_shk, mulS_unit a ha]
theorem unit_lt : unit < 4294967296 := by decide
theorem square (m : Nat) : mulS 32 (shk m unit) (shk m unit) = shk (2 * m) unit := by
  rw [mul_power _ _ (shk_lt m unit_lt), ← shk_add, Nat.two_mul]
theorem first_power : shk 8 unit = 8388608 := shk_unit 8 (by decide)
/-- one round of combining: the number is halved -/
theorem comb_odd (m k x : Nat) (h : k % 2 = 1) : shk (2 * m * (k / 2)) (shk m x) = shk (m * k) x := by
  rw [← shk_add]
  have h1 : m * k = m * (2 * (k / 2) + 1) := by
    have : k = 2 * (k / 2) + 1 := by omega
    rw [← this]
  have h2 : m * (2 * (k / 2) + 1) = 2 * m * (k / 2) + m := by
    rw [Nat.mul_add, Nat.mul_one, ← Nat.mul_assoc, Nat.mul_comm m 2]
  rw [h1, h2, Nat.add_comm]
theorem comb_even (m k x : Nat) (h : k % 2 = 0) : shk (2 * m * (k / 2)) x = shk (m * k) x := by
  have h1 : 2 * m * (k / 2) = m * k := by
    have e : k = 2 * (k / 2) := by omega
    have h2 : m * k = m * (2 * (k / 2)) := by rw [← e]
    rw [h2, ← Nat.mul_assoc, Nat.mul_comm m 2]
  rw [h1]
/-- the bit that is looked at in round j -/
theorem top_bit (a j : Nat) (hj : j ≤ 31) : (a * 2 ^ j % 4294967296) / 2147483648 = if a.testBit (31 - j) then 1 else 0 := by
  have h1 : (a * 2 ^ j % 2 ^ 32).testBit 31 = a.testBit (31 - j) := by
    rw [Nat.testBit_mod_two_pow, Nat.mul_comm, Nat.testBit_two_pow_mul]
    simp [hj]
  rw [← h1, Nat.testBit_eq_decide_div_mod_eq]
  have h2 : (a * 2 ^ j % 2 ^ 32) / 2 ^ 31 < 2 := by omega
  by_cases h3 : (a * 2 ^ j % 2 ^ 32) / 2 ^ 31 % 2 = 1
  · rw [decide_eq_true h3, if_pos rfl]; omega
  · rw [decide_eq_false h3]; simp only [Bool.false_eq_true, if_false]; omega
theorem next_a (a j : Nat) : a * 2 ^ j % 4294967296 * 2 % 4294967296 = a * 2 ^ (j + 1) % 4294967296 := by
  rw [Nat.pow_succ, ← Nat.mul_assoc]; omega
/-- where nothing is left, the other rounds add nothing -/
theorem mulS_done (a b j : Nat) (h : a * 2 ^ j % 4294967296 = 0) : ∀ d, j + d ≤ 32 → mulS (j + d) a b = mulS j a b := by
  intro d
  induction d with
  | zero => intro _; rfl
  | succ d ih =>
    intro hd
    have hb : a.testBit (31 - (j + d)) = false := by
      have h1 := top_bit a (j + d) (by omega)
      have h2 : a * 2 ^ (j + d) % 4294967296 = 0 := by
        rw [Nat.pow_add, ← Nat.mul_assoc, Nat.mul_mod, h, Nat.zero_mul]
      rw [h2] at h1
      cases hx : a.testBit (31 - (j + d)) with
      | false => rfl
      | true => rw [hx] at h1; simp at h1
    rw [show j + (d + 1) = (j + d) + 1 by omega, mulS, ih (by omega), hb]
    simp
end Go.Proofs.Ytlmhlinjlneagaa
