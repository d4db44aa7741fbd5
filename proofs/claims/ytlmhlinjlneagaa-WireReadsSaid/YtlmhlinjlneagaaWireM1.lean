import Derived.Laws.BytesArg
/-! Plain mathematics of the encodings of numbers. -/
namespace Go.Proofs.Ytlmhlinjlneagaa
/-- the encoding -/
def enc : Nat → Nat → List UInt8
  | 0, n => [UInt8.ofNat n]
  | k + 1, n => if n < 128 then [UInt8.ofNat n] else UInt8.ofNat (n % 128 + 128) :: enc k (n / 128)
def encK : Nat → Nat → List UInt8
  | 0, n => [UInt8.ofNat n]
  | k + 1, n => UInt8.ofNat (n % 128 + 128) :: encK k (n / 128)
def encN (n k j : Nat) : Nat := if j < k then n / 128 ^ j % 128 + 128 else n / 128 ^ k
def encI (n k : Nat) : List Int := (List.range (k + 1)).map fun j => (encN n k j : Int)
theorem encI_len (n k : Nat) : (encI n k).length = k + 1 := by simp [encI]
theorem encK_range (k : Nat) : ∀ n, encK k n = (List.range (k + 1)).map fun j => UInt8.ofNat (encN n k j) := by
  induction k with
  | zero => intro n; simp [encK, encN, List.range_succ]
  | succ k ih =>
    intro n
    rw [encK, ih, List.range_succ_eq_map (n := k + 1), List.map_cons, List.map_map]
    congr 1
    · simp [encN]
    · apply List.map_congr_left
      intro j _
      have e1 : n / 128 / 128 ^ j = n / 128 ^ (j + 1) := by rw [Nat.div_div_eq_div_mul, ← Nat.pow_succ']
      have e2 : n / 128 / 128 ^ k = n / 128 ^ (k + 1) := by rw [Nat.div_div_eq_div_mul, ← Nat.pow_succ']
      simp [encN, e1, e2]
theorem enc_eq (k : Nat) : ∀ f n, k ≤ f → (k = 0 ∨ 128 ≤ n / 128 ^ (k - 1)) → n / 128 ^ k < 128 → enc f n = encK k n := by
  induction k with
  | zero =>
    intro f n _ _ h
    simp at h
    cases f <;> simp [enc, encK, h]
  | succ k ih =>
    intro f n hf h1 h2
    obtain ⟨f, rfl⟩ : ∃ g, f = g + 1 := ⟨f - 1, by omega⟩
    have h1' : 128 ≤ n / 128 ^ k := h1.resolve_left (by omega)
    have hn : 128 ≤ n := Nat.le_trans h1' (Nat.div_le_self _ _)
    have e2 : n / 128 / 128 ^ k = n / 128 ^ (k + 1) := by rw [Nat.div_div_eq_div_mul, ← Nat.pow_succ']
    rw [enc, if_neg (by omega), encK, ih f (n / 128) (by omega) _ (by omega)]
    by_cases hk : k = 0
    · exact .inl hk
    · right
      rw [Nat.div_div_eq_div_mul, ← Nat.pow_succ', (by omega : (k - 1).succ = k)]
      exact h1'
theorem enc_str (n k : Nat) (hk : k ≤ 9) (h1 : k = 0 ∨ 128 ≤ n / 128 ^ (k - 1)) (h2 : n / 128 ^ k < 128) : strOfNums (encI n k) = ⟨(enc 9 n).toArray⟩ := by
  rw [enc_eq k 9 n hk h1 h2, encK_range]
  simp [strOfNums, encI, List.map_map]
/-- the tenth digit is the last one -/
theorem last_digit (n k m : Nat) (h : n < 18446744073709551616) (hk : k ≤ 9) (hm : m = n / 128 ^ k) (h3 : 128 ≤ m) : k ≤ 8 := by
  rcases Nat.lt_or_ge 8 k with h8 | h8
  · obtain rfl : k = 9 := by omega
    rw [hm] at h3
    have : n / 128 ^ 9 < 128 := by rw [Nat.div_lt_iff_lt_mul (by decide)]; omega
    omega
  · exact h8
end Go.Proofs.Ytlmhlinjlneagaa
