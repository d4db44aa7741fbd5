import Derived.Test.YtklbckonlbpbgabFixT2
/-! Is there a record of another length? -/
namespace Go.Proofs.Ytklbckonlbpbgab
open Go.Lib Go.ChangeShapes Go.WideShapes Go.ChangeAt Go.RowKit
set_option linter.unusedVariables false

theorem first_other (L : Nat) (l : List ByteArray) : (∀ x ∈ l, x.size = L) ∨ ∃ m, ∃ hm : m < l.length, l[m].size ≠ L ∧ ∀ i (hi : i < m), l[i].size = L := by
  induction l with
  | nil => left; intro x hx; cases hx
  | cons a l ih =>
    by_cases h0 : a.size = L
    · rcases ih with h | ⟨m, hm, h1, h2⟩
      · left; intro x hx
        rcases List.mem_cons.1 hx with rfl | hx
        · exact h0
        · exact h x hx
      · right
        refine ⟨m + 1, by simp; omega, by simpa using h1, fun i hi => ?_⟩
        cases i with
        | zero => simpa using h0
        | succ i => simpa using h2 i (by omega)
    · right; exact ⟨0, by simp, by simpa using h0, fun i hi => absurd hi (Nat.not_lt_zero _)⟩
end Go.Proofs.Ytklbckonlbpbgab
