import Derived.Test.YtiehchbaiikjiaaSame
import Derived.Test.YtiehchbaiikjiaaDevA
/-! The reference's New out of range. -/
namespace Go.Proofs.Ytiehchbaiikjiaa
open Go.Lib Go.ChangeShapes Go.WideShapes Go.ChangeAt Go.RowKit

abbrev rzero : Value := .agg #[.slice none 0 0, .slice none 0 0, .slice none 0 0, .slice none 0 0, .bool false, .int .i64 0, .slice none 0 0]
set_option maxRecDepth 100000 in
theorem rnew_bad (s : Int) (h : s < 1 ∨ 1155 < s) (w : World) : Calls Try.prog 12 #[.int .i64 s] w fun e w' => e = .returned (.tuple #[rzero, .int .i64 1]) ∧ Below w.heap.size w w' := by
  by_cases h1 : s < 1
  · clear h
    go_enter Try.func12, Try.ntmps12
    go_wp2_with fail
    obtain ⟨W, hW⟩ : ∃ W, W = w.alloc (.cells #[.slice none 0 0, .slice none 0 0, .slice none 0 0, .slice none 0 0, .bool false, .int .i64 0, .slice none 0 0] 32) := ⟨_, rfl⟩
    have hr : Row W w.heap.size 32 [.slice none 0 0, .slice none 0 0, .slice none 0 0, .slice none 0 0, .bool false, .int .i64 0, .slice none 0 0] := by rw [hW]; exact Row.new w [.slice none 0 0, .slice none 0 0, .slice none 0 0, .slice none 0 0, .bool false, .int .i64 0, .slice none 0 0] _
    have d0 := hr.cell (i := 0) rfl
    have d1 := hr.cell (i := 1) rfl
    have d2 := hr.cell (i := 2) rfl
    have d3 := hr.cell (i := 3) rfl
    have d4 := hr.cell (i := 4) rfl
    have d5 := hr.cell (i := 5) rfl
    have d6 := hr.cell (i := 6) rfl
    have hb : Below w.heap.size w W := by rw [hW]; exact (Below.refl _ _).alloc (Nat.le_refl _) _
    rw [← hW]
    exact bodyPost_ret (v := .tuple #[rzero, .int .i64 1]) (by simp [results, Try.f12, go_sem, d0, d1, d2, d3, d4, d5, d6]) rfl ⟨rfl, hb⟩
  · have h2 : 1155 < s := by omega
    clear h
    go_enter Try.func12, Try.ntmps12
    go_wp2_with fail
    obtain ⟨W, hW⟩ : ∃ W, W = w.alloc (.cells #[.slice none 0 0, .slice none 0 0, .slice none 0 0, .slice none 0 0, .bool false, .int .i64 0, .slice none 0 0] 32) := ⟨_, rfl⟩
    have hr : Row W w.heap.size 32 [.slice none 0 0, .slice none 0 0, .slice none 0 0, .slice none 0 0, .bool false, .int .i64 0, .slice none 0 0] := by rw [hW]; exact Row.new w [.slice none 0 0, .slice none 0 0, .slice none 0 0, .slice none 0 0, .bool false, .int .i64 0, .slice none 0 0] _
    have d0 := hr.cell (i := 0) rfl
    have d1 := hr.cell (i := 1) rfl
    have d2 := hr.cell (i := 2) rfl
    have d3 := hr.cell (i := 3) rfl
    have d4 := hr.cell (i := 4) rfl
    have d5 := hr.cell (i := 5) rfl
    have d6 := hr.cell (i := 6) rfl
    have hb : Below w.heap.size w W := by rw [hW]; exact (Below.refl _ _).alloc (Nat.le_refl _) _
    rw [← hW]
    exact bodyPost_ret (v := .tuple #[rzero, .int .i64 1]) (by simp [results, Try.f12, go_sem, d0, d1, d2, d3, d4, d5, d6]) rfl ⟨rfl, hb⟩
end Go.Proofs.Ytiehchbaiikjiaa
