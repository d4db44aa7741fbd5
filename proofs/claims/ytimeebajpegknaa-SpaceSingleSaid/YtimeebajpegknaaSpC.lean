import Derived.Test.YtimeebajpegknaaSpW
/-! What Consolidate keeps. -/
namespace Go.Proofs.Ytimeebajpegknaa

theorem con_false (E F : List (Int × Int)) (h : (ConAns E F).2 = false) : (ConAns E F).1 = (0, 0) := by
  unfold ConAns at h ⊢
  split
  · rfl
  · rename_i h1
    rw [if_neg h1] at h
    unfold BestAns at h ⊢
    split
    · rfl
    · rename_i h2
      rw [if_neg h2] at h
      cases hf : (srtUp (norm (inB (minusI F E)))).find? (fun r => decide (((seqI E).length : Int) ≤ r.2)) with
      | none => rfl
      | some r => rw [hf] at h; cases h
/-- a single run for extents -/
structure Single (E F : List (Int × Int)) (x y : Int) : Prop where
  two : 2 ≤ (joinI E).length
  size : y = ((seqI E).length : Int)
  bd : 0 ≤ x ∧ x ≤ 128 ∧ 1 ≤ y ∧ y ≤ 128
  inside : Inside [(x, y)] (minusI F E)
  len : ((seqI [(x, y)]).length : Int) = y
theorem con_true (E F : List (Int × Int)) (h : (ConAns E F).2 = true) : Single E F (ConAns E F).1.1 (ConAns E F).1.2 := by
  unfold ConAns at h ⊢
  by_cases h1 : (joinI E).length < 2
  · rw [if_pos h1] at h; cases h
  rw [if_neg h1] at h ⊢
  obtain ⟨r, hr, e, h2, h3⟩ := best_some (minusI F E) _ h
  have hi := inside_best (minusI F E) r hr _ h2 h3
  have hc := norm_counts _ r hr
  rw [e]
  exact ⟨by omega, rfl, by simp only; omega, hi.1, hi.2⟩
namespace Single
variable {E F : List (Int × Int)} {x y : Int}
theorem mem (h : Single E F x y) (t : Nat) (ht : t < 128) (hp : inB [(x, y)] t = true) : inB F t = true ∧ inB E t = false := by
  have h1 := h.inside.2 t (List.contains_iff_mem.1 hp)
  have h2 : inB (minusI F E) t = true := List.contains_iff_mem.2 h1
  unfold minusI at h2
  have h3 : inB (norm fun t => inB F t && !inB E t) t = (inB F t && !inB E t) := inB_canon _ t ht
  rw [h3] at h2
  simpa using h2
theorem minus (h : Single E F x y) : norm (fun t => inB [(x, y)] t && !inB F t) = [] := by
  refine (norm_eq.2 ?_).trans norm_false
  intro t ht
  cases hp : inB [(x, y)] t with
  | false => rfl
  | true => simp [(h.mem t ht hp).1]
theorem common (h : Single E F x y) : norm (fun t => inB [(x, y)] t && inB E t) = [] := by
  refine (norm_eq.2 ?_).trans norm_false
  intro t ht
  cases hp : inB [(x, y)] t with
  | false => rfl
  | true => simp [(h.mem t ht hp).2]
theorem norm_size (B : Nat → Bool) : (seqI (norm B)).length = cnt 128 B := by unfold norm; rw [seqI_canon _ (ofB_lt B)]; rfl
theorem sizes (h : Single E F x y) : ((seqI (norm fun t => inB (norm fun t => inB F t || inB E t) t && !inB [(x, y)] t)).length : Int) = ((seqI (norm fun t => inB F t || inB E t)).length : Int) - y := by
  rw [norm_size, norm_size]
  have h1 := cnt_or_and 128 (fun t => inB (norm fun t => inB F t || inB E t) t && !inB [(x, y)] t) (inB [(x, y)])
  have h2 : cnt 128 (fun t => (inB (norm fun t => inB F t || inB E t) t && !inB [(x, y)] t) || inB [(x, y)] t) = cnt 128 (fun t => inB F t || inB E t) := cnt_congr _ _ _ fun t ht => by
    have e : inB (norm fun t => inB F t || inB E t) t = (inB F t || inB E t) := inB_canon _ t ht
    rw [e]
    cases hp : inB [(x, y)] t with
    | false => simp
    | true => simp [(h.mem t ht hp).1]
  have h3 : cnt 128 (fun t => (inB (norm fun t => inB F t || inB E t) t && !inB [(x, y)] t) && inB [(x, y)] t) = 0 := by
    rw [cnt_congr 128 _ (fun _ => false) fun t ht => by cases inB [(x, y)] t <;> simp]
    unfold cnt; simp
  have h4 := (nodup_cnt (seqI [(x, y)]) (seqI_lt _)).2.2 h.inside.1
  have h5 : cnt 128 (inB [(x, y)]) = (seqI [(x, y)]).length := h4.symm
  have h6 := h.len
  rw [h2, h3, h5] at h1
  omega
end Single
end Go.Proofs.Ytimeebajpegknaa
