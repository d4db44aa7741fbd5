import Derived.Test.YtlmhlinjlneagaaWireM2
import Derived.Laws.Strings
/-! Plain mathematics: no encoding is the beginning of another one. -/
namespace Go.Proofs.Ytlmhlinjlneagaa
theorem ofNat_inj (a b : Nat) (ha : a < 256) (hb : b < 256) (h : UInt8.ofNat a = UInt8.ofNat b) : a = b := by
  have := congrArg UInt8.toNat h
  simp at this
  omega
theorem enc_pos (f n : Nat) : 1 ≤ (enc f n).length := by
  cases f with
  | zero => simp [enc]
  | succ k => rw [enc]; split <;> simp
theorem enc_prefix (f : Nat) : ∀ a b, a < 128 ^ (f + 1) → b < 128 ^ (f + 1) → enc f a <+: enc f b → a = b := by
  induction f with
  | zero =>
    intro a b ha hb h
    simp [enc] at h
    exact ofNat_inj a b (by omega) (by omega) h
  | succ k ih =>
    intro a b ha hb h
    rw [enc, enc] at h
    have ha' : a / 128 < 128 ^ (k + 1) := by rw [Nat.div_lt_iff_lt_mul (by decide)]; rw [Nat.pow_succ] at ha; exact ha
    have hb' : b / 128 < 128 ^ (k + 1) := by rw [Nat.div_lt_iff_lt_mul (by decide)]; rw [Nat.pow_succ] at hb; exact hb
    by_cases h1 : a < 128 <;> by_cases h2 : b < 128
    · rw [if_pos h1, if_pos h2] at h
      simp at h
      exact ofNat_inj a b (by omega) (by omega) h
    · rw [if_pos h1, if_neg h2] at h
      rw [List.cons_prefix_cons] at h
      exact absurd (ofNat_inj a (b % 128 + 128) (by omega) (by omega) h.1) (by omega)
    · rw [if_neg h1, if_pos h2] at h
      rw [List.cons_prefix_cons] at h
      exact absurd (ofNat_inj (a % 128 + 128) b (by omega) (by omega) h.1) (by omega)
    · rw [if_neg h1, if_neg h2] at h
      rw [List.cons_prefix_cons] at h
      have e1 := ofNat_inj _ _ (by omega) (by omega) h.1
      have e2 := ih _ _ ha' hb' h.2
      omega
theorem enc_mono (f : Nat) : ∀ a b, a ≤ b → (enc f a).length ≤ (enc f b).length := by
  induction f with
  | zero => intro a b _; simp [enc]
  | succ k ih =>
    intro a b h
    rw [enc, enc]
    by_cases h1 : a < 128 <;> by_cases h2 : b < 128
    · rw [if_pos h1, if_pos h2]; simp
    · rw [if_pos h1, if_neg h2]; simp
    · omega
    · rw [if_neg h1, if_neg h2]
      have := ih (a / 128) (b / 128) (by omega)
      simp
      exact this
theorem extract_list (Y : ByteArray) (n : Nat) : (Y.extract 0 n).data.toList = Y.data.toList.take n := by
  rw [ByteArray.data_extract]; simp
theorem enc_cmp (a b : Nat) (ha : a < 18446744073709551616) (hb : b < 18446744073709551616) (hne : a ≠ b) (X Y : ByteArray) (hX : X = ⟨(enc 9 a).toArray⟩) (hY : Y = ⟨(enc 9 b).toArray⟩) :
    (X.toList == (Y.extract 0 X.size).toList) = false := by
  rw [beq_eq_false_iff_ne, ByteArray.toList_eq, ByteArray.toList_eq, extract_list]
  intro h
  apply hne
  apply enc_prefix 9 a b (by omega) (by omega)
  subst hX hY
  simp only [] at h
  rw [h]
  exact List.take_prefix _ _
end Go.Proofs.Ytlmhlinjlneagaa
