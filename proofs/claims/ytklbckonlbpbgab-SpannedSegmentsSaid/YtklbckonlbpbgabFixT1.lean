import Derived.Test.YtklbckonlbpbgabFixM
/-! Valid and Most of both; lists of texts in memory; Few and Same. -/
namespace Go.Proofs.Ytklbckonlbpbgab
open Go.Lib Go.ChangeShapes Go.WideShapes Go.ChangeAt Go.RowKit

/-- what a call that only answers leaves -/
def Is (v : Value) (w : World) (e : Ending) (w' : World) : Prop := e = .returned v ∧ w' = w
/-- what a call that may make memory leaves -/
def Gives (v : Value) (w : World) (e : Ending) (w' : World) : Prop := e = .returned v ∧ Below w.heap.size w w'

/-- the greatest number of records of a block -/
def mostI (L B : Int) : Int := if fits L B then ((B.toNat / L.toNat : Nat) : Int) else 0
theorem mostI_nat {l b : Nat} (h : fits (l : Int) (b : Int)) : mostI l b = ((b / l : Nat) : Int) := by unfold mostI; rw [if_pos h]; simp
theorem mostI_no {L B : Int} (h : ¬ fits L B) : mostI L B = 0 := by unfold mostI; rw [if_neg h]
theorem quo_wrap (b l : Nat) (h : b / l ≤ 1024) : wrap64 ((b : Int) / (l : Int)) = ((b / l : Nat) : Int) := by
  rw [← Int.natCast_ediv]
  obtain ⟨q, hq⟩ : ∃ q, q = b / l := ⟨_, rfl⟩
  rw [← hq] at h ⊢
  unfold wrap64; omega
end Go.Proofs.Ytklbckonlbpbgab
