import Derived.Test.YtklbckonlbpbgabVarT2
/-! Unpack. -/
namespace Go.Proofs.Ytklbckonlbpbgab
open Go.Lib Go.ChangeShapes Go.WideShapes Go.ChangeAt Go.RowKit
set_option linter.unusedVariables false

theorem nel {d : ByteArray} (h : 0 < d.size) : ¬ d.toList = [] := by
  rw [ByteArray.toList_eq]
  intro e
  have : d.data.toList.length = 0 := by rw [e]; rfl
  have e2 : d.data.toList.length = d.size := by simp
  omega
theorem empty_of {d : ByteArray} (h : d.size = 0) : d = ⟨#[]⟩ := ByteArray.ext (Array.eq_empty_of_size_eq_zero h)
theorem app_empty (d : ByteArray) : d ++ ⟨#[]⟩ = d := ByteArray.append_empty
/-- the bytes of records begin with the first one's form -/
theorem isBody.drop {l : List ByteArray} {k : Nat} (hk : k < l.length) : vbody (l.drop k) = vform l[k] ++ vbody (l.drop (k + 1)) := by
  rw [← vbody_cons, ← List.drop_eq_getElem_cons hk]
theorem isBody.cut {L : Nat} {r y : ByteArray} (hr : r.size ≤ L) (h : ¬ ∃ l, isBody L l (vform r ++ y)) : ¬ ∃ l, isBody L l y := fun ⟨l, h1, h2⟩ =>
  h ⟨r :: l, by rw [vbody_cons, ← h1], fun z hz => by
    rcases List.mem_cons.1 hz with rfl | hz
    · exact hr
    · exact h2 z hz⟩
theorem isBody.ne {L : Nat} {x : ByteArray} (h : ¬ ∃ l, isBody L l x) : 0 < x.size := by
  rcases Nat.eq_zero_or_pos x.size with e | e
  · exact absurd ⟨[], empty_of e, fun z hz => by cases hz⟩ h
  · exact e
/-- what is no block -/
theorem isV.no {L B : Nat} {d : ByteArray} (hB : 4 ≤ B) (hB2 : B ≤ 1024) (h : ¬ ∃ l, isV L B l d) : (¬ ∃ r y, d = vform r ++ y ∧ r.size ≤ B - 4) ∨ ∃ r y, d = vform r ++ y ∧ r.size ≤ B - 4 ∧ (r.size = 0 ∨ (0 < r.size ∧ 0 < y.size) ∨ (0 < r.size ∧ y = ⟨#[]⟩ ∧ ¬ ∃ l, isBody L l r)) := by
  by_cases h1 : ∃ r y, d = vform r ++ y ∧ r.size ≤ B - 4
  · right
    obtain ⟨r, y, h2, h3⟩ := h1
    refine ⟨r, y, h2, h3, ?_⟩
    rcases Nat.eq_zero_or_pos r.size with e | e
    · exact .inl e
    · rcases Nat.eq_zero_or_pos y.size with e2 | e2
      · refine .inr (.inr ⟨e, empty_of e2, fun ⟨l, h4, h5⟩ => h ⟨l, ?_, ?_, h5, ?_⟩⟩)
        · rw [h2, empty_of e2, app_empty, h4]; rfl
        · rintro rfl
          rw [h4] at e; exact absurd e (Nat.lt_irrefl 0)
        · rw [h2, vform_all]; omega
      · exact .inr (.inl ⟨e, e2⟩)
  · exact .inl h1
theorem box_int (w : World) (m : Int) : w.heap.size < (w.alloc (.cells #[.int .i64 m] 3)).heap.size ∧ (w.alloc (.cells #[.int .i64 m] 3)).cell? ⟨w.heap.size, 0, none⟩ = some (.int .i64 m) ∧ Below w.heap.size w (w.alloc (.cells #[.int .i64 m] 3)) :=
  ⟨by simp, by rw [World.cell?_alloc_new]; rfl, (Below.refl _ _).alloc (Nat.le_refl _) _⟩
end Go.Proofs.Ytklbckonlbpbgab
