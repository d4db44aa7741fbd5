import Derived.Test.YtklbckonlbpbgabSlices
import Derived.Deep.Slices
/-! Slices of single cells among the arguments. -/
namespace Go.Proofs.Ytklbckonlbpbgab
open Go.ChangeShapes Go.WideShapes Go.Deep Go.RowKit
section
variable {H : Type} {enc : TypeId × Value → H} {P : Program} {w : World} {base : Nat} {spare : Nat → Bool} {held : Bool}
theorem open_cells {t e : TypeId} {fuel : Nat} {cs : List Value} {x : DataW H × List MemPlace} (ht : P.underlying t = some (.slice e)) (hC : P.cellsOf e = 1) (h : DataW.trod enc P w base spare held fuel t cs = some x) :
    ∃ (A : Option Addr) (len cap : Nat) (C : Nat → Nat → Value), cs = [.slice A len cap] ∧ len ≤ cap ∧ cap ≤ maxLen ∧ Elems w A len 1 C ∧ ∀ i, i < len → ∃ y n, DataW.trod enc P w base spare held n e [C i 0] = some y := by
  rcases open_slice1 ht hC h with ⟨rfl, _⟩ | ⟨a, len, cap, m, n, V, D, Pl, rfl, _, hl, hm, hmm, _, hi⟩
  · exact ⟨none, 0, 0, fun _ _ => .bool false, rfl, Nat.le_refl _, Nat.zero_le _, fun h => absurd h (Nat.lt_irrefl _), fun i hi => absurd hi (Nat.not_lt_zero _)⟩
  · have hlm : len ≤ m := by rw [hmm]; split <;> omega
    refine ⟨some a, len, cap, fun i _ => V i, rfl, hl, hm, fun h0 => ?_, fun i hil => ?_⟩
    · have k0 := (hi 0 (by omega)).1
      obtain ⟨b, off, spot⟩ := a
      have hspot : spot = none := by simpa [Addr.add] using World.cell?_spot k0
      subst hspot
      refine ⟨b, off, rfl, ?_, fun i j hil hj => ?_⟩
      · have k1 : w.cell? ⟨b, off + 0, none⟩ = some (V 0) := by rw [← add_plain]; exact k0
        exact cell_lt k1
      · obtain rfl : j = 0 := by omega
        have := (hi i (by omega)).1
        rw [add_plain] at this
        simpa using this
    · exact ⟨_, n, (hi i (by omega)).2⟩
end
end Go.Proofs.Ytklbckonlbpbgab
