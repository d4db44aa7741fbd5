import Derived.Test.YtpcigmjbjcgdbaaExtT5
/-! The specification: holds, clip, In. -/
namespace Go.Proofs.Ytpcigmjbjcgdbaa
open Go.Lib Go.ChangeShapes Go.WideShapes Go.ChangeAt Go.RowKit

theorem ret_bool {a b : Bool} (h : a = b) : Ending.returned (.bool a) = .returned (.bool b) := by rw [h]
theorem ex_form (f c : Int) : ∃ F C : Nat, ex (f, c) = (F, C) ∧ (min (max c 0 + min f 0) (128 - max f 0) < 1 ∧ F = 0 ∧ C = 0 ∨ 1 ≤ min (max c 0 + min f 0) (128 - max f 0) ∧ (F : Int) = max f 0 ∧ (C : Int) = min (max c 0 + min f 0) (128 - max f 0)) := by
  refine ⟨(ex (f, c)).1, (ex (f, c)).2, rfl, ?_⟩
  unfold ex
  by_cases hz : min (max c 0 + min f 0) (128 - max f 0) < 1
  · rw [if_pos (by simp only; omega)]; exact .inl ⟨hz, rfl, rfl⟩
  · rw [if_neg (by simp only; omega)]; exact .inr ⟨by omega, by simp only; omega, by simp only; omega⟩
set_option maxRecDepth 100000 in
theorem holds_any (f c : Int) (h1 : -9223372036854775808 ≤ f ∧ f ≤ 9223372036854775807 ∧ -9223372036854775808 ≤ c ∧ c ≤ 9223372036854775807) (t : Nat) (ht : t < 128) (w : World) :
    Calls Try.prog 80 #[.agg #[.int .i64 f, .int .i64 c], .int .i64 t] w (Answers (decide ((ex (f, c)).1 ≤ t ∧ t < (ex (f, c)).1 + (ex (f, c)).2)) w) := by
  obtain ⟨F, C, hX, hF⟩ := ex_form f c
  rw [hX]
  obtain ⟨R, hR⟩ : ∃ R, R = decide (F ≤ t ∧ t < F + C) := ⟨_, rfl⟩
  simp only
  rw [← hR]
  obtain ⟨b1, b2, b3, b4⟩ := h1
  have hR2 : R = true ↔ (1 ≤ c ∧ f ≤ t ∧ (t : Int) < f + c) := by rw [hR, decide_eq_true_iff]; omega
  have HR := hid hR2
  clear hR hX hF hR2
  by_cases h0 : f < 0
  · by_cases hc : 1 ≤ c
    · go_enter Try.func80, Try.ntmps80
      go_wp2_with fail
      all_goals
        go_ret
        refine ⟨ret_bool ?_, (Below.refl _ _).alloc (Nat.le_refl _) _⟩
        have := HR.out
        rw [Bool.eq_iff_iff, this]
        simp
        omega
    · go_enter Try.func80, Try.ntmps80
      go_wp2_with fail
      all_goals
        go_ret
        refine ⟨ret_bool ?_, (Below.refl _ _).alloc (Nat.le_refl _) _⟩
        have := HR.out
        rw [Bool.eq_iff_iff, this]
        simp
        omega
  · by_cases hc : 1 ≤ c
    · by_cases ht2 : f ≤ t
      all_goals
        go_enter Try.func80, Try.ntmps80
        go_wp2_with fail
        all_goals
          go_ret
          refine ⟨ret_bool ?_, (Below.refl _ _).alloc (Nat.le_refl _) _⟩
          have := HR.out
          rw [Bool.eq_iff_iff, this]
          simp
          omega
    · go_enter Try.func80, Try.ntmps80
      go_wp2_with fail
      all_goals
        go_ret
        refine ⟨ret_bool ?_, (Below.refl _ _).alloc (Nat.le_refl _) _⟩
        have := HR.out
        rw [Bool.eq_iff_iff, this]
        simp
        omega
end Go.Proofs.Ytpcigmjbjcgdbaa
