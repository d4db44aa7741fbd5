import Derived.Test.YtlmhlinjlneagaaWireM3
/-! Plain mathematics: what was encoded is read again. -/
namespace Go.Proofs.Ytlmhlinjlneagaa
theorem dec_one (n i acc : Nat) (r : List UInt8) (hi : i ≤ 9) (h : n * 128 ^ i < 18446744073709551616) (h1 : n < 128) (hp : 0 < i → 0 < n) :
    dec (UInt8.ofNat n :: r) i acc = some (acc + n * 128 ^ i, i + 1) := by
  have e : (UInt8.ofNat n).toNat = n := by simp; omega
  rw [dec, e, if_neg (by omega), if_neg, if_neg (by omega), if_neg (by omega), Nat.mod_eq_of_lt h1]
  rintro ⟨rfl, h2⟩
  have : 2 * 128 ^ 9 ≤ n * 128 ^ 9 := Nat.mul_le_mul_right _ h2
  have h4 : 2 * 128 ^ 9 = 18446744073709551616 := by decide
  omega
theorem dec_enc (f : Nat) : ∀ n i acc r, i + f ≤ 9 → n * 128 ^ i < 18446744073709551616 → n < 128 ^ (f + 1) → (0 < i → 0 < n) →
    dec (enc f n ++ r) i acc = some (acc + n * 128 ^ i, i + (enc f n).length) := by
  induction f with
  | zero =>
    intro n i acc r hi h h1 hp
    simp only [enc, List.cons_append, List.nil_append, List.length_cons, List.length_nil]
    exact dec_one n i acc r (by omega) h (by omega) hp
  | succ k ih =>
    intro n i acc r hi h h1 hp
    rw [enc]
    by_cases hn : n < 128
    · rw [if_pos hn]
      exact dec_one n i acc r (by omega) h hn hp
    · rw [if_neg hn, List.cons_append, dec]
      have e : (UInt8.ofNat (n % 128 + 128)).toNat = n % 128 + 128 := by simp; omega
      have hq : n / 128 * 128 ^ (i + 1) + n % 128 * 128 ^ i = n * 128 ^ i := by
        have : n / 128 * 128 ^ (i + 1) = n / 128 * 128 * 128 ^ i := by rw [Nat.pow_succ', Nat.mul_assoc]
        rw [this, ← Nat.add_mul]
        congr 1
        omega
      rw [e, if_neg (by omega), if_neg (by omega), if_pos (by omega)]
      rw [ih (n / 128) (i + 1) _ r (by omega) (by omega) (by rw [Nat.div_lt_iff_lt_mul (by decide)]; rw [Nat.pow_succ] at h1; exact h1) (by omega)]
      have e2 : (n % 128 + 128) % 128 = n % 128 := by omega
      rw [e2, List.length_cons]
      congr 2 <;> omega
theorem dec_enc9 (n : Nat) (h : n < 18446744073709551616) (r : List UInt8) : dec (enc 9 n ++ r) 0 0 = some (n, (enc 9 n).length) := by
  have := dec_enc 9 n 0 0 r (by omega) (by omega) (by omega) (by omega)
  simpa using this
end Go.Proofs.Ytlmhlinjlneagaa
