import Derived.Test.YtklbckonlbpbgabVarT3
import Derived.Deep.RegionHeld3
/-! The reference's Block and Unpack. -/
namespace Go.Proofs.Ytklbckonlbpbgab
open Go.Lib Go.ChangeShapes Go.WideShapes Go.ChangeAt Go.RowKit
set_option linter.unusedVariables false

theorem sadd (a b : ByteArray) (ha : a.size ≤ 1000000) (hb : b.size ≤ 1000000) (w : World) : (Op.stringOp .add a b).run Try.prog w = .ok (.string (a ++ b)) w :=
  run_string_add_sum w _ _ (by omega)
theorem below_drew (w : World) : Below w.heap.size w w.drew := (Upds.drew (F := fun _ => False) w).below (Nat.le_refl _) (fun _ h => h.elim)
/-- a cell that is kept -/
def Keep1 (w : World) (p : Addr) (v : Value) (W : World) : Prop := W.cell? p = some v ∧ Below w.heap.size w W
theorem Keep1.step {w W W' : World} {p : Addr} {v : Value} (hp : p.block < w.heap.size) (h : W.cell? p = some v ∧ Below w.heap.size w W) (hb : Below W.heap.size W W') : W'.cell? p = some v ∧ Below w.heap.size w W' :=
  ⟨(hb.cell (Nat.lt_of_lt_of_le hp h.2.size)).trans h.1, h.2.trans (hb.mono h.2.size)⟩
end Go.Proofs.Ytklbckonlbpbgab
