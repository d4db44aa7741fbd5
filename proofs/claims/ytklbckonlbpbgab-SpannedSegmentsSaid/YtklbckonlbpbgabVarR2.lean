import Derived.Test.YtklbckonlbpbgabVarR1
/-! The reference's Unpack. -/
namespace Go.Proofs.Ytklbckonlbpbgab
open Go.Lib Go.ChangeShapes Go.WideShapes Go.ChangeAt Go.RowKit
set_option linter.unusedVariables false

theorem ext_mid (p r z : ByteArray) : (p ++ vform r ++ z).extract p.size (p.size + 4) = word (4 + r.size) ∧ (p ++ vform r ++ z).extract (p.size + 4) (p.size + (4 + r.size)) = r ∧ (p ++ vform r ++ z).extract (p.size + (4 + r.size)) (p ++ vform r ++ z).size = z ∧ (p ++ vform r ++ z).size = p.size + (4 + r.size) + z.size := by
  have e1 : p ++ vform r ++ z = p ++ word (4 + r.size) ++ (r ++ z) := by unfold vform; simp only [ByteArray.append_assoc]
  have e2 : p ++ vform r ++ z = (p ++ word (4 + r.size)) ++ r ++ z := by unfold vform; simp only [ByteArray.append_assoc]
  refine ⟨?_, ?_, ?_, ?_⟩
  · rw [e1]; exact extract_app3 p (word (4 + r.size)) (r ++ z)
  · rw [e2]
    have := extract_app3 (p ++ word (4 + r.size)) r z
    rw [ByteArray.size_append, word_size] at this
    rw [show p.size + (4 + r.size) = p.size + 4 + r.size by omega]
    exact this
  · have := extract_app_right (p ++ vform r) z
    rw [ByteArray.size_append (a := p), vform_size] at this
    exact this
  · rw [ByteArray.size_append, ByteArray.size_append, vform_size]
theorem vblock_at (l : List ByteArray) (k : Nat) (hk : k < l.length) : ∃ a, a = 4 + (vbody (l.take k)).size ∧ (vblock l).extract a (a + 4) = word (4 + l[k].size) ∧ (vblock l).extract (a + 4) (a + (4 + l[k].size)) = l[k] ∧ (vblock l).size = a + (4 + l[k].size) + (vbody (l.drop (k + 1))).size ∧ a + (4 + l[k].size) = 4 + (vbody (l.take (k + 1))).size := by
  have e : vblock l = (word (4 + (vbody l).size) ++ vbody (l.take k)) ++ vform l[k] ++ vbody (l.drop (k + 1)) := by
    rw [ByteArray.append_assoc, ← isBody.drop hk]
    have : vbody l = vbody (l.take k) ++ vbody (l.drop k) := by
      conv => lhs; rw [← List.take_append_drop k l]
      unfold vbody; rw [List.map_append, cat_append]
    unfold vblock vform
    rw [ByteArray.append_assoc, ← this]
  have h := ext_mid (word (4 + (vbody l).size) ++ vbody (l.take k)) l[k] (vbody (l.drop (k + 1)))
  rw [← e, ByteArray.size_append, word_size] at h
  refine ⟨_, rfl, h.1, h.2.1, h.2.2.2, ?_⟩
  rw [List.take_succ_eq_append_getElem hk, vbody_snoc_size]; omega
theorem KeepB.step {w W W' : World} (h : Below w.heap.size w W) (hb : Below W.heap.size W W') : Below w.heap.size w W' := h.trans (hb.mono h.size)
theorem sne_false (x : ByteArray) : (x.toList != x.toList) = false := by simp
theorem sne_true {x y : ByteArray} (h : x ≠ y) : (x.toList != y.toList) = true := by
  simp only [bne_iff_ne, ne_eq]
  intro e
  apply h
  apply ByteArray.ext
  apply Array.toList_inj.1
  rw [ByteArray.toList_eq, ByteArray.toList_eq] at e
  exact e
theorem seq_false {x y : ByteArray} (h : x ≠ y) : (x.toList == y.toList) = false := by
  have := sne_true h
  simpa [bne] using this
end Go.Proofs.Ytklbckonlbpbgab
