import Derived.Deep.Slices
import Derived.Deep.Fields
import Derived.ChangeSame
import Derived.ChangeArms
import Derived.Below
import Derived.ProofKit
/-! My own words for slices of structs whose fields are single cells. -/
namespace Go.Proofs.Ytklbckonlbpbgab
open Go.ChangeShapes Go.WideShapes Go.Deep Go.RowKit

/-- a slice whose elements are k cells each -/
def Elems (w : World) (A : Option Addr) (len k : Nat) (C : Nat → Nat → Value) : Prop :=
  0 < len → ∃ b off, A = some ⟨b, off, none⟩ ∧ b < w.heap.size ∧ ∀ i j, i < len → j < k → w.cell? ⟨b, off + (i * k + j), none⟩ = some (C i j)

theorem cell_lt {w : World} {b o : Nat} {v : Value} (h : w.cell? ⟨b, o, none⟩ = some v) : b < w.heap.size := by
  rcases Nat.lt_or_ge b w.heap.size with h' | h'
  · exact h'
  · simp [World.cell?, Array.getElem?_eq_none h'] at h

theorem Elems.below {w w' : World} {A : Option Addr} {len k : Nat} {C : Nat → Nat → Value} (h : Elems w A len k C) (hb : Below w.heap.size w w') : Elems w' A len k C := fun h0 => by
  obtain ⟨b, off, e, hlt, hc⟩ := h h0
  exact ⟨b, off, e, Nat.lt_of_lt_of_le hlt hb.size, fun i j hi hj => (hb.cell (p := ⟨b, off + (i * k + j), none⟩) hlt).trans (hc i j hi hj)⟩
theorem Elems.keep {w w' : World} {A : Option Addr} {len k B : Nat} {C : Nat → Nat → Value} (h : Elems w A len k C) (hB : w.heap.size ≤ B) (hb : Below B w w') : Elems w' A len k C := h.below (hb.mono hB)

section
variable {H : Type} {enc : TypeId × Value → H} {P : Program} {w : World} {base : Nat} {spare : Nat → Bool} {held : Bool}
/-- a slice of structs that reads as data: its cells, each of which reads as its field -/
theorem open_elems {t e : TypeId} {fs : Array Field} {fuel : Nat} {cs : List Value} {x : DataW H × List MemPlace} (ht : P.underlying t = some (.slice e)) (he : P.underlying e = some (.struct fs))
    (hone : oneCellFields P fs = true) (hC : P.cellsOf e = fs.size) (hpos : 0 < fs.size) (h : DataW.trod enc P w base spare held fuel t cs = some x) :
    ∃ (A : Option Addr) (len cap : Nat) (C : Nat → Nat → Value), cs = [.slice A len cap] ∧ len ≤ cap ∧ cap ≤ maxLen ∧ Elems w A len fs.size C ∧
      ∀ i j f, i < len → fs[j]? = some f → ∃ y n, DataW.trod enc P w base spare held n f.type [C i j] = some y := by
  rcases open_slice ht h with ⟨rfl, _⟩ | ⟨a, len, cap, m, n, D, Pl, rfl, _, hl, hm, hmm, _, hi⟩
  · exact ⟨none, 0, 0, fun _ _ => .bool false, rfl, Nat.le_refl _, Nat.zero_le _, fun h => absurd h (Nat.lt_irrefl _), fun i j f hi => absurd hi (Nat.not_lt_zero _)⟩
  · have hlm : len ≤ m := by rw [hmm]; split <;> omega
    have key : ∀ i j, ∃ v : Value, i < len → j < fs.size → w.cell? (a.add (i * fs.size + j)) = some v ∧ ∀ f, fs[j]? = some f → ∃ y n', DataW.trod enc P w base spare held n' f.type [v] = some y := by
      intro i j
      by_cases hij : i < len ∧ j < fs.size
      · obtain ⟨hil, hjf⟩ := hij
        obtain ⟨cs', hc, htr⟩ := hi i (by omega)
        rw [hC] at hc
        obtain ⟨_, hcl, hat⟩ := World.cells?_some hc
        obtain ⟨ys, n', _, _, _, hyl, hf⟩ := DataW.trod_struct he htr
        have hjc : j < cs'.length := by omega
        refine ⟨cs'[j], fun _ _ => ⟨?_, fun f hfj => ?_⟩⟩
        · have := hat j hjf
          rw [Go.Deep.add_add] at this
          rw [this, List.getElem?_eq_getElem hjc]
        · obtain ⟨ho, hk⟩ := hone_of hone j f hfj
          have h1 := hf j f hfj
          rw [ho, hk, List.drop_eq_getElem_cons hjc] at h1
          have hjy : j < ys.length := by omega
          exact ⟨ys[j], n', h1.trans (List.getElem?_eq_getElem hjy)⟩
      · exact ⟨.bool false, fun h1 h2 => absurd ⟨h1, h2⟩ hij⟩
    refine ⟨some a, len, cap, fun i j => Classical.choose (key i j), rfl, hl, hm, fun h0 => ?_, fun i j f hil hfj => ?_⟩
    · have k0 := (Classical.choose_spec (key 0 0) h0 hpos).1
      obtain ⟨b, off, spot⟩ := a
      have hspot : spot = none := by simpa [Addr.add] using World.cell?_spot k0
      subst hspot
      refine ⟨b, off, rfl, ?_, fun i j hil hj => ?_⟩
      · have k1 : w.cell? ⟨b, off + (0 * fs.size + 0), none⟩ = some (Classical.choose (key 0 0)) := by rw [← add_plain]; exact k0
        exact cell_lt k1
      · have := (Classical.choose_spec (key i j) hil hj).1
        rw [← add_plain]
        exact this
    · exact (Classical.choose_spec (key i j) hil (Array.getElem?_eq_some_iff.1 hfj).1).2 f hfj
end
end Go.Proofs.Ytklbckonlbpbgab
