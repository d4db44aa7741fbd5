import Derived.Test.YtlmhlinjlneagabCrcM2
/-! Plain mathematics: a change within four successive bytes of a sealed text is seen. -/
namespace Go.Proofs.Ytlmhlinjlneagab
attribute [local irreducible] shk
theorem reg_append (l : List UInt8) : ∀ c k, reg c (l ++ k) = reg (reg c l) k := by
  induction l with
  | nil => intro c k; rfl
  | cons b l ih => intro c k; exact ih _ k
theorem reg_zeros (k : Nat) : ∀ c, reg c (List.replicate k 0) = shk (8 * k) c := by
  induction k with
  | zero => intro c; show c = shk (8 * 0) c; unfold shk; rfl
  | succ k ih =>
    intro c
    have h1 : reg c (List.replicate (k + 1) 0) = reg (shk 8 (c ^^^ 0)) (List.replicate k 0) := rfl
    rw [h1, Nat.xor_zero, ih, ← shk_add, show 8 * (k + 1) = 8 + 8 * k by omega]
theorem byte_in (b : UInt8) (k c : Nat) : shk 8 c ^^^ b.toNat * 2 ^ k = shk 8 (c ^^^ b.toNat * 2 ^ (k + 8)) := by
  rw [shk_xor]
  congr 1
  rw [Nat.pow_add, ← Nat.mul_assoc, shk_mul]
theorem reg_four (c : Nat) (a b d e : UInt8) : reg c [a, b, d, e] = shk 32 (c ^^^ ((a.toNat ^^^ b.toNat * 2 ^ 8) ^^^ (d.toNat * 2 ^ 16 ^^^ e.toNat * 2 ^ 24))) := by
  have h0 : reg c [a, b, d, e] = shk 8 (shk 8 (shk 8 (shk 8 (c ^^^ a.toNat) ^^^ b.toNat) ^^^ d.toNat) ^^^ e.toNat) := rfl
  have z (x : UInt8) : x.toNat = x.toNat * 2 ^ 0 := by rw [Nat.pow_zero, Nat.mul_one]
  rw [h0]
  conv => lhs; rw [z b, z d, z e]
  rw [byte_in b 0, byte_in d 0, byte_in d (0 + 8), byte_in e 0, byte_in e (0 + 8), byte_in e (0 + 8 + 8)]
  rw [← shk_add, ← shk_add, ← shk_add]
  congr 1
  simp only [Nat.zero_add, Nat.xor_assoc]
theorem four_xor (m : Nat) (h : m < 4294967296) : ((UInt8.ofNat (m % 256)).toNat ^^^ (UInt8.ofNat (m / 256 % 256)).toNat * 2 ^ 8) ^^^ ((UInt8.ofNat (m / 65536 % 256)).toNat * 2 ^ 16 ^^^ (UInt8.ofNat (m / 16777216)).toNat * 2 ^ 24) = m := by
  have e (k : Nat) (hk : k < 256) : (UInt8.ofNat k).toNat = k := by simp; omega
  have x (a b k : Nat) (ha : a < 2 ^ k) : a ^^^ b * 2 ^ k = a + b * 2 ^ k := by
    have h1 := Nat.two_pow_add_eq_or_of_lt (i := k) (b := a) ha b
    have h2 : a ^^^ b * 2 ^ k = 2 ^ k * b ||| a := by
      rw [Nat.mul_comm b]
      apply Nat.eq_of_testBit_eq
      intro i
      rw [Nat.testBit_xor, Nat.testBit_or]
      by_cases hi : i < k
      · have : (2 ^ k * b).testBit i = false := by rw [Nat.testBit_two_pow_mul]; simp; omega
        rw [this]; simp
      · have : a.testBit i = false := Nat.testBit_lt_two_pow (Nat.lt_of_lt_of_le ha (Nat.pow_le_pow_right (by decide) (by omega)))
        rw [this]; simp
    rw [h2, ← h1, Nat.mul_comm (2 ^ k) b, Nat.add_comm]
  rw [e _ (by omega), e _ (by omega), e _ (by omega), e _ (by omega)]
  rw [x (m % 256) (m / 256 % 256) 8 (by omega)]
  have e2 : m / 65536 % 256 * 2 ^ 16 ^^^ m / 16777216 * 2 ^ 24 = (m / 65536) * 2 ^ 16 := by
    rw [x (m / 65536 % 256 * 2 ^ 16) (m / 16777216) 24 (by omega)]; omega
  rw [e2, x _ (m / 65536) 16 (by omega)]
  omega
theorem reg_le4 (c m : Nat) (h : m < 4294967296) : reg c (le4 m).data.toList = shk 32 (c ^^^ m) := by
  have := reg_four c (UInt8.ofNat (m % 256)) (UInt8.ofNat (m / 256 % 256)) (UInt8.ofNat (m / 65536 % 256)) (UInt8.ofNat (m / 16777216))
  rw [four_xor m h] at this
  exact this
theorem sealed_reg (x : ByteArray) : reg ones (x ++ le4 (sumS x)).data.toList = shk 32 ones := by
  rw [ByteArray.data_append, Array.toList_append, reg_append, reg_le4 _ _ (sumS_lt x)]
  congr 1
  unfold sumS crc
  rw [Nat.zero_xor, ← Nat.xor_assoc, Nat.xor_self, Nat.zero_xor]
theorem opened_reg (u v : ByteArray) (h : openS u = some v) : reg ones u.data.toList = shk 32 ones := by
  unfold openS at h
  by_cases h4 : u.size < 4
  · rw [if_pos h4] at h; cases h
  · rw [if_neg h4] at h
    split at h
    · rename_i he
      rw [← he]; exact sealed_reg _
    · cases h
/-- the difference that a mask makes -/
def diff (n p : Nat) (m : ByteArray) : List UInt8 := List.replicate p 0 ++ (m.data.toList ++ List.replicate (n - p - m.size) 0)
theorem diff_len (n p : Nat) (m : ByteArray) (h : p + m.size ≤ n) : (diff n p m).length = n := by
  have : m.data.toList.length = m.size := by simp
  simp only [diff, List.length_append, List.length_replicate]; omega
theorem diff_at (n p : Nat) (m : ByteArray) (i : Nat) (hi : i < (diff n p m).length) : (diff n p m)[i] = if p ≤ i ∧ i - p < m.size then m.data.toList.getD (i - p) 0 else 0 := by
  have hm : m.data.toList.length = m.size := by simp
  simp only [diff] at hi ⊢
  rw [List.getElem_append]
  by_cases h1 : i < p
  · rw [dif_pos (by simpa using h1), if_neg (by omega), List.getElem_replicate]
  · rw [dif_neg (by simpa using h1), List.getElem_append]
    simp only [List.length_replicate]
    by_cases h2 : i - p < m.size
    · rw [dif_pos (by omega), if_pos (by omega), List.getD_eq_getElem?_getD, List.getElem?_eq_getElem (by omega)]; rfl
    · rw [dif_neg (by omega), if_neg (by omega), List.getElem_replicate]
theorem xorL_diff (t m : ByteArray) (p : Nat) (h : p + m.size ≤ t.size) : xorL t p m = List.zipWith (· ^^^ ·) t.data.toList (diff t.size p m) := by
  have ht : t.data.toList.length = t.size := by simp
  have hd := diff_len t.size p m h
  apply List.ext_getElem
  · rw [xorL_len, List.length_zipWith, ht, hd]; omega
  · intro i h1 h2
    rw [xorL_len] at h1
    rw [List.getElem_zipWith, diff_at]
    simp only [xorL, List.getElem_map, List.getElem_range]
    unfold xk
    rw [List.getD_eq_getElem?_getD, List.getElem?_eq_getElem (by omega)]
    rfl
theorem burst (s u : ByteArray) (p m : Nat) (hm : m < 4294967296) (h0 : m ≠ 0) (hp : p ≤ s.size) (hu : u = ⟨(xorL (s ++ le4 (sumS s)) p (le4 m)).toArray⟩) : openS u = none := by
  cases ho : openS u with
  | none => rfl
  | some v =>
    exfalso
    apply h0
    have hz : (s ++ le4 (sumS s)).size = s.size + 4 := by rw [ByteArray.size_append, le4_size]
    have hl : u.data.toList = List.zipWith (· ^^^ ·) (s ++ le4 (sumS s)).data.toList (diff (s ++ le4 (sumS s)).size p (le4 m)) := by
      rw [hu, ← xorL_diff _ _ _ (by rw [hz, le4_size]; omega)]
    have h1 := opened_reg u v ho
    have h2 := sealed_reg s
    have h3 := reg_xor (s ++ le4 (sumS s)).data.toList (diff (s ++ le4 (sumS s)).size p (le4 m)) ones 0 (by rw [diff_len _ _ _ (by rw [hz, le4_size]; omega)]; simp)
    rw [Nat.xor_zero, ← hl, h1, h2] at h3
    have h4 : reg 0 (diff (s ++ le4 (sumS s)).size p (le4 m)) = 0 := by
      have := congrArg (shk 32 ones ^^^ ·) h3
      simpa [← Nat.xor_assoc] using this.symm
    unfold diff at h4
    have hz0 : reg 0 (List.replicate p 0) = 0 := by rw [reg_zeros, shk_zero]
    rw [reg_append, reg_append, hz0, reg_le4 0 m hm, Nat.zero_xor, reg_zeros] at h4
    exact shk_eq_zero 32 hm (shk_eq_zero _ (shk_lt 32 hm) h4)
end Go.Proofs.Ytlmhlinjlneagab
