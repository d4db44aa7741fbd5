import Derived.Test.YtpcigmjbjcgdbaaExtL
namespace Go.Proofs.Ytpcigmjbjcgdbaa
/-- is a number one of the tracks of a list? -/
def hasT (l : List (Int × Int)) (t : Int) : Bool := (FirstAt (seqI l) t).2
theorem hasT_nat (l : List (Int × Int)) (t : Nat) : hasT l t = inB l t := inB_first l t
theorem hasT_out (l : List (Int × Int)) (t : Int) (h : t < 0 ∨ 128 ≤ t) : hasT l t = false := by
  cases hh : hasT l t with
  | false => rfl
  | true =>
    unfold hasT at hh
    rw [inB_iff] at hh
    obtain ⟨x, hx, e⟩ := hh
    have := seqI_lt l x hx
    omega
theorem hasT_norm (B : Nat → Bool) (t : Int) : hasT (norm B) t = if 0 ≤ t ∧ t < 128 then B t.toNat else false := by
  by_cases h : 0 ≤ t ∧ t < 128
  · rw [if_pos h]
    obtain ⟨n, rfl⟩ : ∃ n : Nat, t = n := ⟨t.toNat, by omega⟩
    rw [hasT_nat]
    exact inB_canon B n (by omega)
  · rw [if_neg h]; exact hasT_out _ _ (by omega)
theorem hasT_in (l : List (Int × Int)) (t : Int) (h : 0 ≤ t ∧ t < 128) : hasT l t = inB l t.toNat := by
  obtain ⟨n, rfl⟩ : ∃ n : Nat, t = n := ⟨t.toNat, by omega⟩
  exact hasT_nat l n
theorem hasT_op (op : Bool → Bool → Bool) (h0 : op false false = false) (a b : List (Int × Int)) (t : Int) : hasT (norm fun t => op (inB a t) (inB b t)) t = op (hasT a t) (hasT b t) := by
  rw [hasT_norm]
  by_cases h : 0 ≤ t ∧ t < 128
  · rw [if_pos h, hasT_in a t h, hasT_in b t h]
  · rw [if_neg h, hasT_out a t (by omega), hasT_out b t (by omega), h0]
/-- the first k numbers from -1 on belong to both or to none -/
def agr (a b : List (Int × Int)) : Nat → Bool
  | 0 => true
  | k + 1 => agr a b k && (hasT a ((k : Int) - 1) == hasT b ((k : Int) - 1))
theorem agr_iff (a b : List (Int × Int)) (k : Nat) : agr a b k = true ↔ ∀ j, j < k → hasT a ((j : Int) - 1) = hasT b ((j : Int) - 1) := by
  induction k with
  | zero => simp [agr]
  | succ k ih =>
    rw [agr, Bool.and_eq_true, ih, beq_iff_eq]
    constructor
    · rintro ⟨h1, h2⟩ j hj
      by_cases e : j = k
      · subst e; exact h2
      · exact h1 j (by omega)
    · intro h; exact ⟨fun j hj => h j (by omega), h k (by omega)⟩
theorem agr_all (a b : List (Int × Int)) : agr a b 130 = decide (norm (inB a) = norm (inB b)) := by
  rw [Bool.eq_iff_iff, agr_iff, decide_eq_true_iff, norm_eq]
  constructor
  · intro h t ht
    have := h (t + 1) (by omega)
    have e : (((t + 1 : Nat) : Int) - 1) = (t : Int) := by omega
    rw [e, hasT_nat, hasT_nat] at this
    exact this
  · intro h j _
    by_cases hj : 1 ≤ j ∧ j ≤ 128
    · obtain ⟨t, rfl⟩ : ∃ t, j = t + 1 := ⟨j - 1, by omega⟩
      have e : (((t + 1 : Nat) : Int) - 1) = (t : Int) := by omega
      rw [e, hasT_nat, hasT_nat]
      exact h t (by omega)
    · rw [hasT_out a _ (by omega), hasT_out b _ (by omega)]
end Go.Proofs.Ytpcigmjbjcgdbaa
