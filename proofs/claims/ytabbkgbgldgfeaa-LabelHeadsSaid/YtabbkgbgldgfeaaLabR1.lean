import Derived.Test.YtabbkgbgldgfeaaLabT1
import Derived.Test.YtabbkgbgldgfeaaLabT3
/-! The reference: valid, TableTracks, Slots, Valid. -/
namespace Go.Proofs.Ytabbkgbgldgfeaa
open Go.Lib Go.ChangeShapes Go.WideShapes Go.ChangeAt Go.RowKit

set_option maxRecDepth 100000 in
theorem refTr_any (tr : Int) (w : World) :
    Calls Try.prog 47 #[.int .i64 tr] w fun e w' => e = .returned (.bool (decide (trOk tr))) ∧ w = w' := by
  by_cases h4 : 4 ≤ tr
  · have hd : decide (trOk tr) = decide (tr ≤ 128) := decide_eq_decide.2 ⟨fun h => h.2, fun h => ⟨h4, h⟩⟩
    rw [hd]
    clear hd
    go_enter Try.func47, Try.ntmps47
    go_wp2_with fail
    go_ret
    exact ⟨rfl, rfl⟩
  · have hd : decide (trOk tr) = false := decide_eq_false (fun h => h4 h.1)
    rw [hd]
    clear hd
    go_enter Try.func47, Try.ntmps47
    go_wp2_with fail
    go_ret
    exact ⟨rfl, rfl⟩
set_option maxRecDepth 100000 in
theorem refTableTracks_any (tr : Int) (w : World) :
    Calls Try.prog 28 #[.int .i64 tr] w fun e w' => e = .returned (.int .i64 (tabM tr)) ∧ w = w' := by
  have HC := hid (refTr_any tr w)
  obtain ⟨R, hR⟩ : ∃ R, R = tabM tr := ⟨_, rfl⟩
  rw [← hR]
  unfold tabM at hR
  by_cases ht : trOk tr
  · rw [decide_eq_true ht] at HC
    rw [if_pos ht] at hR
    obtain ⟨h4, h8⟩ := ht
    have HR := hid hR
    clear hR
    go_enter Try.func28, Try.ntmps28
    go_wp2_with fail
    refine HC.out.mono ?_
    rintro e w' ⟨rfl, rfl⟩
    go_wp2_with fail
    go_ret
    rw [HR.out]
    exact ⟨rfl, rfl⟩
  · rw [decide_eq_false ht] at HC
    rw [if_neg ht] at hR
    have HR := hid hR
    clear hR ht
    go_enter Try.func28, Try.ntmps28
    go_wp2_with fail
    refine HC.out.mono ?_
    rintro e w' ⟨rfl, rfl⟩
    go_wp2_with fail
    go_ret
    rw [HR.out]
    exact ⟨rfl, rfl⟩
set_option maxRecDepth 100000 in
theorem refSlots_any (tr : Int) (w : World) :
    Calls Try.prog 29 #[.int .i64 tr] w fun e w' => e = .returned (.int .i64 (max (tabM tr - 1) 0)) ∧ w = w' := by
  have hle := tabM_le tr
  have HC := hid (refTableTracks_any tr w)
  obtain ⟨R, hR⟩ : ∃ R, R = tabM tr := ⟨_, rfl⟩
  rw [← hR] at HC hle ⊢
  clear hR
  go_enter Try.func29, Try.ntmps29
  go_wp2_with fail
  refine HC.out.mono ?_
  rintro e w' ⟨rfl, rfl⟩
  go_wp2_with fail
  · go_ret
    rw [Int.max_eq_left (by omega)]
    exact ⟨rfl, rfl⟩
  · go_ret
    rw [Int.max_eq_right (by omega)]
    exact ⟨rfl, rfl⟩
end Go.Proofs.Ytabbkgbgldgfeaa
