import Derived.Test.YtklbckonlbpbgabVarR2
/-! The reference's Unpack of what is no block. -/
namespace Go.Proofs.Ytklbckonlbpbgab
open Go.Lib Go.ChangeShapes Go.WideShapes Go.ChangeAt Go.RowKit
set_option linter.unusedVariables false

theorem ext_ext (d : ByteArray) (a i j : Nat) (hj : a + j ≤ d.size) : (d.extract a d.size).extract i j = d.extract (a + i) (a + j) := by
  rw [ByteArray.extract_extract]
  congr 1; omega
theorem ext_all (d : ByteArray) (a i : Nat) : (d.extract a d.size).extract i (d.size - a) = d.extract (a + i) d.size := by
  rcases Nat.le_total a d.size with h | h
  · rw [ByteArray.extract_extract, show min (a + (d.size - a)) d.size = d.size by omega]
  · rw [ByteArray.extract_extract, show min (a + (d.size - a)) d.size = d.size by omega]
/-- what the reference sees at a place -/
theorem at_cases (x : Nat) (hx : x ≤ 1000) (d : ByteArray) (a : Nat) (ha : a < d.size) :
    (∃ r, r.size ≤ x ∧ a + (4 + r.size) ≤ d.size ∧ d.extract a (a + 4) = word (4 + r.size) ∧ d.extract (a + 4) (a + (4 + r.size)) = r ∧ d.extract a d.size = vform r ++ d.extract (a + (4 + r.size)) d.size) ∨
    d.size < a + 4 ∨ (a + 4 ≤ d.size ∧ ∀ n ≤ 65535, d.extract a (a + 4) ≠ word n) ∨ (a + 4 ≤ d.size ∧ ∃ n ≤ 65535, d.extract a (a + 4) = word n ∧ (n < 4 ∨ 4 + x < n ∨ d.size < a + n)) := by
  by_cases h4 : d.size < a + 4
  · exact .inr (.inl h4)
  · have hs : (d.extract a d.size).size = d.size - a := by rw [ByteArray.size_extract]; omega
    have hm : min (d.extract a d.size).size 4 = 4 := by omega
    have he : (d.extract a d.size).extract 0 4 = d.extract a (a + 4) := ext_ext d a 0 4 (by omega)
    rcases cut_cases x (d.extract a d.size) with ⟨r, y, h1, h2⟩ | h | ⟨n, hn, h1, h2, h3⟩
    · left
      have hsz : d.size - a = 4 + r.size + y.size := by rw [← hs, h1, vform_all]
      have hle : a + (4 + r.size) ≤ d.size := by omega
      have e1 := vform_word r y
      have e2 := vform_bytes r y
      have e3 := vform_rest r y
      rw [← h1] at e1 e2 e3
      rw [hs] at e3
      rw [ext_all] at e3
      rw [ext_ext d a 0 4 (by omega)] at e1
      rw [ext_ext d a 4 (4 + r.size) (by omega)] at e2
      exact ⟨r, h2, hle, e1, e2, by rw [h1, e3]⟩
    · right; right; left
      rw [hm, he] at h
      exact ⟨by omega, h⟩
    · right; right; right
      rw [hm, he] at h1
      refine ⟨by omega, n, hn, h1, ?_⟩
      rw [hs] at h3
      omega
end Go.Proofs.Ytklbckonlbpbgab
