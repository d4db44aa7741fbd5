import Derived.Test.YtabbkgbgldgfeaaLabO
import Derived.Test.YtabbkgbgldgfeaaLabC
import Derived.Test.YtabbkgbgldgfeaaExt
/-! TableTracks, Slots, and the conditions of Valid one by one. -/
namespace Go.Proofs.Ytabbkgbgldgfeaa
open Go.Lib Go.ChangeShapes Go.WideShapes Go.ChangeAt Go.RowKit

set_option maxRecDepth 100000 in
theorem tableTracks_any (tr : Int) (h1 : -9223372036854775808 ≤ tr ∧ tr ≤ 9223372036854775807) (w : World) :
    Calls Try.prog 26 #[.int .i64 tr] w fun e w' => e = .returned (.int .i64 (tabM tr)) ∧ w = w' := by
  obtain ⟨h1, h2⟩ := h1
  obtain ⟨R, hR⟩ : ∃ R, R = tabM tr := ⟨_, rfl⟩
  rw [← hR]
  unfold tabM at hR
  by_cases h4 : tr < 4
  · rw [if_neg (by unfold trOk; omega)] at hR
    have HR := hid hR
    clear hR
    go_enter Try.func26, Try.ntmps26
    go_wp2_with fail
    go_ret
    rw [HR.out]
    exact ⟨rfl, rfl⟩
  by_cases h8 : 128 < tr
  · rw [if_neg (by unfold trOk; omega)] at hR
    have HR := hid hR
    clear hR
    go_enter Try.func26, Try.ntmps26
    go_wp2_with fail
    go_ret
    rw [HR.out]
    exact ⟨rfl, rfl⟩
  · rw [if_pos (by unfold trOk; omega)] at hR
    have HR := hid hR
    clear hR
    go_enter Try.func26, Try.ntmps26
    go_wp2_with fail
    go_ret
    rw [HR.out]
    exact ⟨rfl, rfl⟩
theorem tabM_le (tr : Int) : 0 ≤ tabM tr ∧ tabM tr ≤ 32 := by
  unfold tabM; split
  · rename_i h; unfold trOk at h; omega
  · omega
theorem tabM_pos (tr : Int) : 0 < tabM tr ↔ trOk tr := by
  unfold tabM; split
  · rename_i h; unfold trOk at h; constructor
    · intro _; exact h
    · intro _; omega
  · rename_i h; constructor
    · intro h; omega
    · intro g; exact absurd g h
set_option maxRecDepth 100000 in
theorem slots_any (tr : Int) (h1 : -9223372036854775808 ≤ tr ∧ tr ≤ 9223372036854775807) (w : World) :
    Calls Try.prog 27 #[.int .i64 tr] w fun e w' => e = .returned (.int .i64 (max (tabM tr - 1) 0)) ∧ w = w' := by
  have hle := tabM_le tr
  have HC := hid (tableTracks_any tr h1 w)
  obtain ⟨R, hR⟩ : ∃ R, R = tabM tr := ⟨_, rfl⟩
  rw [← hR] at HC hle ⊢
  clear hR h1
  go_enter Try.func27, Try.ntmps27
  go_wp2_with fail
  refine HC.out.mono ?_
  rintro e w' ⟨rfl, rfl⟩
  go_wp2_with fail
  · go_ret
    rw [Int.max_eq_right (by omega)]
    exact ⟨rfl, rfl⟩
  · go_ret
    rw [Int.max_eq_left (by omega)]
    exact ⟨rfl, rfl⟩
set_option maxRecDepth 100000 in
theorem validTracks_any (tr : Int) (h1 : -9223372036854775808 ≤ tr ∧ tr ≤ 9223372036854775807) (w : World) :
    Calls Try.prog 31 #[.int .i64 tr] w fun e w' => e = .returned (.bool (decide (trOk tr))) ∧ w = w' := by
  have HC := hid (tableTracks_any tr h1 w)
  have hd : decide (0 < tabM tr) = decide (trOk tr) := decide_eq_decide.2 (tabM_pos tr)
  obtain ⟨R, hR⟩ : ∃ R, R = tabM tr := ⟨_, rfl⟩
  rw [← hR] at HC hd
  rw [← hd]
  clear hR h1 hd
  go_enter Try.func31, Try.ntmps31
  go_wp2_with fail
  refine HC.out.mono ?_
  rintro e w' ⟨rfl, rfl⟩
  go_wp2_with fail
  go_ret
  exact ⟨rfl, rfl⟩
theorem lab_one_own (w : World) (a b : Int) : OwnRuns (w.alloc (.cells #[.int .i64 a, .int .i64 b] 43)) (.slice (some ⟨w.heap.size, 0, none⟩) 1 1) [(a, b)] :=
  .inr ⟨w.heap.size, 1, [.int .i64 a, .int .i64 b], rfl, Row.new w _ _, rfl, rfl, by simp, by omega, by omega⟩
theorem lab_fresh_new (w w1 : World) (h : w.heap.size ≤ w1.heap.size) (n c : Nat) : Fresh w (.slice (some ⟨w1.heap.size, 0, none⟩) n c) := by
  rintro k ⟨_, _, _, e, _, rfl⟩
  simp only [Value.slice.injEq, Option.some.injEq] at e
  obtain ⟨rfl, _⟩ := e
  exact h
set_option maxRecDepth 100000 in
theorem dataTracks_any (tr : Int) (h1 : -9223372036854775808 ≤ tr ∧ tr ≤ 9223372036854775807) (h2 : trOk tr) (w : World) :
    Calls Try.prog 44 #[.int .i64 tr] w (Made w [(tabM tr, tr - tabM tr)]) := by
  have hle := tabM_le tr
  have HC := hid (tableTracks_any tr h1 w)
  obtain ⟨R, hR⟩ : ∃ R, R = tabM tr := ⟨_, rfl⟩
  rw [← hR] at HC hle ⊢
  obtain ⟨h2, h3⟩ := h2
  clear hR h1
  go_enter Try.func44, Try.ntmps44
  go_wp2_with fail
  refine HC.out.mono ?_
  rintro e w' ⟨rfl, rfl⟩
  go_wp2_with fail
  go_ret
  exact ⟨_, rfl, lab_one_own w R (tr - R), lab_fresh_new w w (Nat.le_refl _) 1 1, (Below.refl _ _).alloc (Nat.le_refl _) _⟩
end Go.Proofs.Ytabbkgbgldgfeaa
