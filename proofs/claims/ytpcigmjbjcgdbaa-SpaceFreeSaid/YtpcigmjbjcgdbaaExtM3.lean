import Derived.Test.YtpcigmjbjcgdbaaExtM2
namespace Go.Proofs.Ytpcigmjbjcgdbaa
def cnt (n : Nat) (P : Nat → Bool) : Nat := ((List.range n).filter P).length
theorem cnt_succ (n : Nat) (P : Nat → Bool) : cnt (n + 1) P = cnt n P + if P n then 1 else 0 := by
  unfold cnt; rw [List.range_succ, List.filter_append, List.length_append]
  by_cases h : P n <;> simp [h]
theorem cnt_congr (n : Nat) (P Q : Nat → Bool) (h : ∀ t, t < n → P t = Q t) : cnt n P = cnt n Q := by
  unfold cnt; rw [List.filter_congr fun t ht => h t (List.mem_range.1 ht)]
theorem cnt_add (n a : Nat) (P : Nat → Bool) (h : P a = false) : cnt n (fun t => t == a || P t) = cnt n P + if a < n then 1 else 0 := by
  induction n with
  | zero => rfl
  | succ n ih =>
    rw [cnt_succ, cnt_succ, ih]
    by_cases e : n = a
    · subst e; simp [h]
    · have e1 : (n == a || P n) = P n := by simp [e]
      rw [e1]
      by_cases e2 : a < n
      · simp only [if_pos e2, if_pos (show a < n + 1 by omega)]; omega
      · simp only [if_neg e2, if_neg (show ¬ a < n + 1 by omega)]; omega
theorem cnt_or_and (n : Nat) (P Q : Nat → Bool) : cnt n (fun t => P t || Q t) + cnt n (fun t => P t && Q t) = cnt n P + cnt n Q := by
  induction n with
  | zero => rfl
  | succ n ih =>
    simp only [cnt_succ]
    cases P n <;> cases Q n <;> simp <;> omega
theorem cnt_le (n : Nat) (P : Nat → Bool) : cnt n P ≤ n := by unfold cnt; exact Nat.le_trans (List.length_filter_le _ _) (by simp)
theorem nodup_cnt (s : List Nat) (h : ∀ t ∈ s, t < 128) : cnt 128 (fun t => s.contains t) ≤ s.length ∧ (s.length = cnt 128 (fun t => s.contains t) ↔ s.Nodup) := by
  induction s with
  | nil =>
    have e : cnt 128 (fun t => ([] : List Nat).contains t) = 0 := by unfold cnt; simp
    rw [e]; simp
  | cons a s ih =>
    have ih := ih (fun t ht => h t (by simp [ht]))
    have ha := h a (by simp)
    rw [List.nodup_cons, List.length_cons]
    have e0 : ∀ t, (a :: s).contains t = (t == a || s.contains t) := fun t => by rw [List.contains_cons]
    by_cases hm : a ∈ s
    · have e : cnt 128 (fun t => (a :: s).contains t) = cnt 128 (fun t => s.contains t) := cnt_congr _ _ _ (fun t _ => by
        rw [e0]
        by_cases e : t = a
        · subst e; simp [hm]
        · simp [e])
      rw [e]
      refine ⟨by omega, ⟨fun h2 => by omega, fun h2 => absurd hm h2.1⟩⟩
    · have e : cnt 128 (fun t => (a :: s).contains t) = cnt 128 (fun t => s.contains t) + 1 := by
        rw [cnt_congr _ _ _ (fun t _ => e0 t), cnt_add _ _ _ (by simpa using hm), if_pos ha]
      rw [e]
      refine ⟨by omega, ⟨fun h2 => ⟨hm, ih.2.1 (by omega)⟩, fun h2 => by have := ih.2.2 h2.2; omega⟩⟩
theorem ofB_cnt (B : Nat → Bool) : (ofB B).length = cnt 128 B := rfl
theorem disjoint_iff (l : List (Int × Int)) : (seqI l).length = (ofB (inB l)).length ↔ (seqI l).Nodup := (nodup_cnt (seqI l) (seqI_lt l)).2
end Go.Proofs.Ytpcigmjbjcgdbaa
