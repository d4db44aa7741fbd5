import Derived.Test.YtklbckonlbpbgabSpnS4
/-! Segments, both sides alike. -/
namespace Go.Proofs.Ytklbckonlbpbgab
open Go.Lib Go.ChangeShapes Go.WideShapes Go.ChangeAt Go.RowKit
set_option linter.unusedVariables false

theorem rdSegs_len (L : Nat) (full : Bool) (f : Nat) (first : Bool) (t : ByteArray) (l : List Seg) (h : rdSegs L full f first t = some l) : l.length ≤ t.size := by
  induction f generalizing first t l with
  | zero => simp [rdSegs] at h
  | succ f ih =>
    unfold rdSegs at h
    split at h
    · cases h; simp
    · split at h
      · rename_i h1 h2
        obtain ⟨l', h3, rfl⟩ := Option.map_eq_some_iff.1 h
        have := ih _ _ _ h3
        have := segRest_lt h2.1
        simp; omega
      · cases h
theorem SegsAt.nil (w : World) : SegsAt w (.slice none 0 0) [] := ⟨none, 0, rfl, by simp, by omega, fun h => by simp at h⟩
/-- what Segments gives, on both sides -/
def SegsGive (r : Option (List Seg)) (w : World) (e : Ending) (w' : World) : Prop :=
  match r with
  | none => Gives (.tuple #[.slice none 0 0, .int .i64 11]) w e w'
  | some l => ∃ v, e = .returned (.tuple #[v, .int .i64 0]) ∧ SegsAt w' v l ∧ Below w.heap.size w w'
theorem SSegs.give {t : TypeId} {r : Option (List Seg)} {w : World} {e : Ending} {w' : World} (h : SSegs t r w e w') : SegsGive r w e w' := by
  obtain ⟨h1, h2⟩ := h
  cases r with
  | none => exact ⟨h1, h2⟩
  | some l => obtain ⟨v, h3, h4, _⟩ := h1; exact ⟨v, h3, h4.at, h2⟩
theorem segments_alike (x b : Nat) (hf : sfits (x : Int) (b : Int)) (d : ByteArray) (hd : d.size ≤ 60000) :
    ∃ r, (∀ w, Calls Try.prog 11 #[.int .i64 x, .int .i64 b, .string d] w (SegsGive r w)) ∧ (∀ w, Calls Try.prog 12 #[.int .i64 x, .int .i64 b, .string d] w (SegsGive r w)) ∧ (∀ l, r = some l → l.length ≤ 100000) := by
  by_cases h : 4 < d.size ∧ d.extract 0 4 = word d.size ∧ d.size ≤ b
  · obtain ⟨h1, h2, h3⟩ := h
    refine ⟨rd x (decide (d.size = b)) true (d.extract 4 d.size), fun w => (ssegs_ok x b hf d h1 h2 h3 w).mono fun e w' h => h.give, fun w => ?_, fun l hl => ?_⟩
    · by_cases h8 : 8 ≤ d.size
      · exact (refSsegs_ok x b hf d h8 h2 h3 w).mono fun e w' h => h.give
      · have hs : (d.extract 4 d.size).size = d.size - 4 := by rw [ByteArray.size_extract]; omega
        rw [rd_no _ _ _ _ (by omega) (fun h => by have := h.1.1; omega)]
        exact refSsegs_head x b hf d hd (fun h => h8 h.1) w
    · have := rdSegs_len _ _ _ _ _ _ hl
      have hs : (d.extract 4 d.size).size = d.size - 4 := by rw [ByteArray.size_extract]; omega
      omega
  · refine ⟨none, fun w => ssegs_head x b hf d hd h w, fun w => refSsegs_head x b hf d hd (fun h' => h ⟨by omega, h'.2.1, h'.2.2⟩) w, fun l hl => by cases hl⟩
end Go.Proofs.Ytklbckonlbpbgab
