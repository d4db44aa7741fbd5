import Derived.Test.YtlmhlinjlneagaaWireM5
/-! Plain mathematics: what is read is the encoding of what was read. -/
namespace Go.Proofs.Ytlmhlinjlneagaa
theorem ofNat_toNat (b : UInt8) (n : Nat) (h : n = b.toNat) : UInt8.ofNat n = b := by subst h; simp
theorem enc_small (f n : Nat) (h : n < 128) : enc f n = [UInt8.ofNat n] := by
  cases f with
  | zero => rfl
  | succ k => rw [enc, if_pos h]
theorem dec_strict (l : List UInt8) : ∀ i acc v c, dec l i acc = some (v, c) →
    ∃ m r, i ≤ 9 ∧ v = acc + m * 128 ^ i ∧ m < 2 * 128 ^ (9 - i) ∧ (0 < i → 0 < m) ∧ l = enc (9 - i) m ++ r ∧ c = i + (enc (9 - i) m).length := by
  induction l with
  | nil => intro i acc v c h; simp [dec] at h
  | cons b l ih =>
    intro i acc v c h
    have hb := b.toNat_lt
    rw [dec] at h
    by_cases h1 : 10 ≤ i
    · rw [if_pos h1] at h; cases h
    rw [if_neg h1] at h
    by_cases h2 : i = 9 ∧ 1 < b.toNat
    · rw [if_pos h2] at h; cases h
    rw [if_neg h2] at h
    by_cases h3 : 128 ≤ b.toNat
    · rw [if_pos h3] at h
      obtain ⟨m, r, g1, g2, g3, g4, g5, g6⟩ := ih _ _ _ _ h
      have hm := g4 (by omega)
      have e : 9 - i = (9 - (i + 1)) + 1 := by omega
      have ed : (b.toNat % 128 + 128 * m) / 128 = m := by omega
      have em : (b.toNat % 128 + 128 * m) % 128 = b.toNat % 128 := by omega
      have ee : enc (9 - i) (b.toNat % 128 + 128 * m) = b :: enc (9 - (i + 1)) m := by
        rw [e, enc, if_neg (by omega), ed, em, ofNat_toNat b _ (by omega)]
      refine ⟨b.toNat % 128 + 128 * m, r, by omega, ?_, ?_, by omega, ?_, ?_⟩
      · rw [g2, Nat.add_mul, Nat.pow_succ]
        have : 128 * m * 128 ^ i = m * (128 ^ i * 128) := by rw [Nat.mul_comm 128 m, Nat.mul_assoc, Nat.mul_comm 128]
        omega
      · rw [e, Nat.pow_succ]
        have : m + 1 ≤ 2 * 128 ^ (9 - (i + 1)) := g3
        have h5 : 128 * (m + 1) ≤ 128 * (2 * 128 ^ (9 - (i + 1))) := Nat.mul_le_mul_left _ this
        omega
      · rw [ee, g5]; rfl
      · rw [ee, g6, List.length_cons]; omega
    · rw [if_neg h3] at h
      by_cases h4 : b.toNat = 0 ∧ 0 < i
      · rw [if_pos h4] at h; cases h
      rw [if_neg h4] at h
      simp only [Option.some.injEq, Prod.mk.injEq] at h
      have ee : enc (9 - i) b.toNat = [b] := by rw [enc_small _ _ (by omega), ofNat_toNat b _ rfl]
      refine ⟨b.toNat, l, by omega, ?_, ?_, by omega, by rw [ee]; rfl, by rw [ee, List.length_singleton]; exact h.2.symm⟩
      · rw [← h.1, Nat.mod_eq_of_lt (by omega)]
      · rcases Nat.lt_or_ge i 9 with h9 | h9
        · have e : 9 - i = (8 - i) + 1 := by omega
          have : 1 ≤ 128 ^ (8 - i) := Nat.one_le_pow _ _ (by decide)
          rw [e, Nat.pow_succ]; omega
        · have e : i = 9 := by omega
          subst e
          simp; omega
theorem dec_strict0 (s : ByteArray) (n c : Nat) (h : dec s.data.toList 0 0 = some (n, c)) : n < 18446744073709551616 ∧ c = (enc 9 n).length ∧ ∃ r, s.data.toList = enc 9 n ++ r := by
  obtain ⟨m, r, _, g2, g3, _, g5, g6⟩ := dec_strict _ _ _ _ _ h
  obtain rfl : n = m := by simpa using g2
  refine ⟨by simpa using g3, by simpa using g6, r, by simpa using g5⟩
theorem extract_tail (s : ByteArray) (a : Nat) : (s.extract a s.size).data.toList = s.data.toList.drop a := by
  rw [ByteArray.data_extract, Array.toList_extract, List.extract_eq_take_drop]
  exact List.take_of_length_le (by rw [List.length_drop]; exact Nat.le_refl _)
end Go.Proofs.Ytlmhlinjlneagaa
