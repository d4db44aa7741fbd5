import Derived.Test.YtfdmieeldiljlaaExt
/-! The runs of a set: where a run begins and how far it goes. -/
namespace Go.Proofs.Ytfdmieeldiljlaa

/-- the runs of the first k tracks of a set -/
def RunsOf (B : Nat → Bool) (k : Nat) (l : List (Nat × Nat)) : Prop :=
  l.Pairwise (fun r q => r.1 + r.2 < q.1) ∧ (∀ r ∈ l, 0 < r.2 ∧ r.1 + r.2 ≤ k ∧ (∀ t, r.1 ≤ t → t < r.1 + r.2 → B t = true) ∧ (r.1 + r.2 < k → B (r.1 + r.2) = false)) ∧
  ∀ t, t < k → B t = true → (t = 0 ∨ B (t - 1) = false) → ∃ r ∈ l, r.1 = t
theorem runsOf_upto (B : Nat → Bool) : ∀ k, RunsOf B k (canon (upto B k))
  | 0 => ⟨by simp [upto, canon], fun r hr => by simp [upto, canon] at hr, fun t ht => absurd ht (Nat.not_lt_zero _)⟩
  | k + 1 => by
    obtain ⟨h1, h2, h3⟩ := runsOf_upto B k
    rw [upto_succ]
    by_cases hB : B k = true
    · rw [if_pos hB, canon_snoc]
      rcases snoc_or (canon (upto B k)) with e | ⟨l', p, e⟩
      · rw [e, addR_nil _ (by simp)]
        refine ⟨by simp, fun r hr => ?_, fun t ht hBt hp => ?_⟩
        · simp only [List.mem_singleton] at hr
          subst hr
          refine ⟨by simp, by simp, fun t ht1 ht2 => ?_, fun h => by simp at h⟩
          have : t = k := by simp only at ht1 ht2; omega
          rw [this]; exact hB
        · by_cases htk : t = k
          · exact ⟨(k, 1), by simp, htk.symm⟩
          · obtain ⟨r, hr, _⟩ := h3 t (by omega) hBt hp
            rw [e] at hr; cases hr
      · rw [e] at h1 h2 h3 ⊢
        have hp2 := h2 p (by simp)
        have hlt : ∀ r ∈ l', r.1 + r.2 < p.1 := fun r hr => by
          rw [List.pairwise_append] at h1
          exact h1.2.2 r hr p (by simp)
        by_cases hk : p.1 + p.2 = k
        · rw [addR_yes _ _ _ (by simp) hk]
          refine ⟨?_, fun r hr => ?_, fun t ht hBt hp => ?_⟩
          · rw [List.pairwise_append] at h1 ⊢
            refine ⟨h1.1, by simp, fun r hr q hq => ?_⟩
            simp only [List.mem_singleton] at hq
            subst hq
            exact hlt r hr
          · rw [List.mem_append, List.mem_singleton] at hr
            rcases hr with hr | rfl
            · have h4 := h2 r (by simp [hr])
              have h5 := hlt r hr
              exact ⟨h4.1, by omega, h4.2.2.1, fun _ => h4.2.2.2 (by omega)⟩
            · refine ⟨by simp, by simp only; omega, fun t ht1 ht2 => ?_, fun h => by simp only at h; omega⟩
              simp only at ht1 ht2
              by_cases htk : t = k
              · rw [htk]; exact hB
              · exact hp2.2.2.1 t ht1 (by omega)
          · by_cases htk : t = k
            · exfalso
              rcases hp with h0 | h0
              · omega
              · rw [htk, hp2.2.2.1 (k - 1) (by omega) (by omega)] at h0
                cases h0
            · obtain ⟨r, hr, e1⟩ := h3 t (by omega) hBt hp
              rw [List.mem_append, List.mem_singleton] at hr
              rcases hr with hr | rfl
              · exact ⟨r, by simp [hr], e1⟩
              · exact ⟨(r.1, r.2 + 1), by simp, e1⟩
        · rw [addR_no _ _ _ (by simp) hk]
          refine ⟨?_, fun r hr => ?_, fun t ht hBt hp => ?_⟩
          · rw [List.pairwise_append]
            refine ⟨h1, by simp, fun r hr q hq => ?_⟩
            simp only [List.mem_singleton] at hq
            subst hq
            simp only
            rw [List.mem_append, List.mem_singleton] at hr
            rcases hr with hr | rfl
            · have := hlt r hr; omega
            · omega
          · rw [List.mem_append, List.mem_singleton] at hr
            rcases hr with hr | rfl
            · have h4 := h2 r hr
              have h6 : r.1 + r.2 < k := by
                rw [List.mem_append, List.mem_singleton] at hr
                rcases hr with hr | rfl
                · have := hlt r hr; omega
                · omega
              exact ⟨h4.1, by omega, h4.2.2.1, fun _ => h4.2.2.2 h6⟩
            · refine ⟨by simp, by simp, fun t ht1 ht2 => ?_, fun h => by simp at h⟩
              have : t = k := by simp only at ht1 ht2; omega
              rw [this]; exact hB
          · by_cases htk : t = k
            · exact ⟨(k, 1), by simp, htk.symm⟩
            · obtain ⟨r, hr, e1⟩ := h3 t (by omega) hBt hp
              exact ⟨r, List.mem_append_left _ hr, e1⟩
    · rw [if_neg hB]
      refine ⟨h1, fun r hr => ?_, fun t ht hBt hp => ?_⟩
      · have h4 := h2 r hr
        refine ⟨h4.1, by omega, h4.2.2.1, fun h => ?_⟩
        by_cases hk : r.1 + r.2 = k
        · rw [hk]; simpa using hB
        · exact h4.2.2.2 (by omega)
      · by_cases htk : t = k
        · rw [htk] at hBt; exact absurd hBt hB
        · exact h3 t (by omega) hBt hp
theorem runsOf_norm (B : Nat → Bool) : RunsOf B 128 (canon (ofB B)) := by rw [← upto_all]; exact runsOf_upto B 128
/-- the run of a set that begins with a track in front of which there is none of it -/
theorem find_run (B : Nat → Bool) (e : Nat) (hp : e = 0 ∨ B (e - 1) = false) :
    (∃ c : Nat, (norm B).find? (fun r => decide (r.1 = (e : Int))) = some ((e : Int), (c : Int)) ∧ 0 < c ∧ e + c ≤ 128 ∧ (∀ t, e ≤ t → t < e + c → B t = true) ∧ (e + c < 128 → B (e + c) = false)) ∨
    ((norm B).find? (fun r => decide (r.1 = (e : Int))) = none ∧ (e < 128 → B e = false)) := by
  obtain ⟨_, h2, h3⟩ := runsOf_norm B
  cases hf : (norm B).find? (fun r => decide (r.1 = (e : Int))) with
  | some r =>
    left
    have hm := List.mem_of_find?_eq_some hf
    have he := List.find?_some hf
    simp only [decide_eq_true_eq] at he
    unfold norm up at hm
    rw [List.mem_map] at hm
    obtain ⟨x, hx, rfl⟩ := hm
    simp only at he
    have h4 := h2 x hx
    have e1 : x.1 = e := by omega
    refine ⟨x.2, by rw [e1], h4.1, by omega, fun t ht1 ht2 => h4.2.2.1 t (by omega) (by omega), fun h => ?_⟩
    have h5 := h4.2.2.2 (by omega)
    rw [e1] at h5
    exact h5
  | none =>
    right
    refine ⟨rfl, fun h128 => ?_⟩
    cases hB : B e with
    | false => rfl
    | true =>
      exfalso
      obtain ⟨r, hr, e1⟩ := h3 e h128 hB hp
      rw [List.find?_eq_none] at hf
      refine hf ((r.1 : Int), (r.2 : Int)) ?_ ?_
      · unfold norm up
        rw [List.mem_map]
        exact ⟨r, hr, rfl⟩
      · simp [e1]
end Go.Proofs.Ytfdmieeldiljlaa
