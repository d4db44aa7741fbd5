import Derived.Test.YtklbckonlbpbgabVarT1
/-! A form is cut off a text; Unpack. -/
namespace Go.Proofs.Ytklbckonlbpbgab
open Go.Lib Go.ChangeShapes Go.WideShapes Go.ChangeAt Go.RowKit
set_option linter.unusedVariables false

theorem sl_ab (d : ByteArray) (i j : Int) (a b : Nat) (hi : i = a) (hj : j = b) (h1 : a ≤ b) (h2 : b ≤ d.size) (W : World) : (Instr.slice 9 (.string d) (some (.int .i64 i)) (some (.int .i64 j)) none).run Try.prog W = .ok (.string (d.extract a b)) W := by
  subst hi hj
  rw [run_slice_string W 9 d .i64 .i64 a b Try.underlying9 (by omega) (by omega) (by omega)]
  rfl
theorem sl_to (d : ByteArray) (j : Int) (b : Nat) (hj : j = b) (h2 : b ≤ d.size) (W : World) : (Instr.slice 9 (.string d) none (some (.int .i64 j)) none).run Try.prog W = .ok (.string (d.extract 0 b)) W := by
  subst hj
  rw [run_slice_string_to_if W 9 d .i64 b Try.underlying9, if_pos (by omega)]
  rfl
theorem sl_from (d : ByteArray) (i : Int) (a : Nat) (hi : i = a) (h2 : a ≤ d.size) (W : World) : (Instr.slice 9 (.string d) (some (.int .i64 i)) none none).run Try.prog W = .ok (.string (d.extract a d.size)) W := by
  subst hi
  rw [run_slice_string_from_if W 9 d .i64 a Try.underlying9, if_pos (by omega)]
  rfl
/-! a form at the head -/
end Go.Proofs.Ytklbckonlbpbgab
