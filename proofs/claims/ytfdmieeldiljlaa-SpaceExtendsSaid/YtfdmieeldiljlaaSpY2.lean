import Derived.Test.YtfdmieeldiljlaaSpY1
import Derived.Test.YtfdmieeldiljlaaSpK
/-! Extend of the reference as mathematics: how many tracks directly behind the extents are taken. -/
namespace Go.Proofs.Ytfdmieeldiljlaa

/-- the tracks that are still left after j steps behind a track -/
def leftB (E F : List (Int × Int)) (e j : Nat) (t : Nat) : Bool := (inB F t && !inB E t) && !decide (e ≤ t ∧ t < e + j)
theorem joinI_snoc (E : List (Int × Int)) (h : seqI E ≠ []) : ∃ (l : List (Nat × Nat)) (p1 p2 : Nat), canon (seqI E) = l ++ [(p1, p2)] ∧ joinI E = up l ++ [((p1 : Int), (p2 : Int))] ∧ 0 < p2 ∧ p1 + p2 ≤ 128 ∧ endOf (joinI E) = ((p1 + p2 : Nat) : Int) ∧ inB E (p1 + p2 - 1) = true := by
  have hf := fine_canon (seqI E) (seqI_lt E)
  rcases snoc_or (canon (seqI E)) with e | ⟨l', p, e⟩
  · exact absurd (by rw [← seqOf_canon (seqI E), e]; rfl) h
  · have hp := hf p (by rw [e]; simp)
    refine ⟨l', p.1, p.2, e, by unfold joinI; rw [e, up_append]; rfl, hp.1, hp.2, ?_, ?_⟩
    · unfold joinI
      rw [e, up_append]
      unfold endOf
      simp [up]
    · unfold inB
      rw [List.contains_iff_mem, ← seqOf_canon (seqI E), e, seqOf_append, seqOf_one]
      refine List.mem_append_right _ ?_
      unfold tracks
      rw [List.mem_range'_1]
      omega
/-- what next means -/
theorem next_run (E F : List (Int × Int)) (n : Int) (hn : 1 ≤ n) (p1 p2 : Nat) (he : endOf (joinI E) = ((p1 + p2 : Nat) : Int)) (hlast : inB E (p1 + p2 - 1) = true) :
    ∃ m : Nat, (nextOf E F n).2 = (m : Int) ∧ (m : Int) ≤ n ∧ (m = 0 → nextOf E F n = (0, 0)) ∧ (0 < m → nextOf E F n = (((p1 + p2 : Nat) : Int), (m : Int))) ∧ p1 + p2 + m ≤ max 128 (p1 + p2) ∧
      (∀ j, j < m → p1 + p2 + j < 128 ∧ (inB F (p1 + p2 + j) && !inB E (p1 + p2 + j)) = true) ∧ ((m : Int) < n → p1 + p2 + m < 128 → (inB F (p1 + p2 + m) && !inB E (p1 + p2 + m)) = false) := by
  unfold nextOf behindAns minusI
  rw [he]
  rcases find_run (fun t => inB F t && !inB E t) (p1 + p2) (.inr (by simp [hlast])) with ⟨c, h1, h2, h3, h4, h5⟩ | ⟨h1, h2⟩
  · rw [h1]
    simp only
    refine ⟨(min (c : Int) n).toNat, by omega, by omega, fun h => by omega, fun _ => by rw [Prod.mk.injEq]; exact ⟨rfl, by omega⟩, by omega, fun j hj => ⟨by omega, h4 _ (by omega) (by omega)⟩, fun h h6 => ?_⟩
    have e1 : (min (c : Int) n).toNat = c := by omega
    rw [e1] at h6 ⊢
    exact h5 h6
  · rw [h1]
    simp only
    exact ⟨0, rfl, by omega, fun _ => trivial, fun h => absurd h (Nat.lt_irrefl _), by omega, fun j hj => absurd hj (Nat.not_lt_zero _), fun _ h => h2 h⟩
theorem next_seq (E F : List (Int × Int)) (n : Int) (p1 p2 m : Nat) (h0 : m = 0 → nextOf E F n = (0, 0)) (h1 : 0 < m → nextOf E F n = (((p1 + p2 : Nat) : Int), (m : Int))) (h2 : 0 < m → p1 + p2 + m ≤ 128) :
    seqI (joinI E ++ [nextOf E F n]) = seqI E ++ tracks (p1 + p2, m) := by
  rw [seqI_append, seqI_one]
  congr 1
  · unfold joinI; exact seqI_canon _ (seqI_lt E)
  · rcases Nat.eq_zero_or_pos m with h | h
    · rw [h0 h, h]
      have := ex_nat 0 0 (by omega)
      exact this.trans rfl
    · rw [h1 h, ex_nat _ _ (h2 h)]
theorem next_join (E F : List (Int × Int)) (n : Int) (l : List (Nat × Nat)) (p1 p2 m : Nat) (hc : canon (seqI E) = l ++ [(p1, p2)]) (h0 : m = 0 → nextOf E F n = (0, 0)) (h1 : 0 < m → nextOf E F n = (((p1 + p2 : Nat) : Int), (m : Int))) (h2 : 0 < m → p1 + p2 + m ≤ 128) :
    joinI (joinI E ++ [nextOf E F n]) = up l ++ [((p1 : Int), ((p2 + m : Nat) : Int))] := by
  have hs := next_seq E F n p1 p2 m h0 h1 h2
  show up (canon (seqI (joinI E ++ [nextOf E F n]))) = _
  rw [hs, ← canon_add, hc]
  rcases Nat.eq_zero_or_pos m with h | h
  · rw [addR_zero _ _ (by simp only; exact h), h, up_append]; rfl
  · rw [addR_yes _ _ _ (by simp only; omega) rfl, up_append]; rfl
theorem left_all (E F : List (Int × Int)) (n : Int) (p1 p2 m : Nat) (h0 : m = 0 → nextOf E F n = (0, 0)) (h1 : 0 < m → nextOf E F n = (((p1 + p2 : Nat) : Int), (m : Int))) (h2 : 0 < m → p1 + p2 + m ≤ 128) :
    norm (leftB E F (p1 + p2) m) = minusI F (joinI (joinI E ++ [nextOf E F n])) := by
  have hs := next_seq E F n p1 p2 m h0 h1 h2
  unfold minusI
  rw [norm_eq]
  intro t ht
  have e : inB (joinI (joinI E ++ [nextOf E F n])) t = (inB E t || decide (p1 + p2 ≤ t ∧ t < p1 + p2 + m)) := by
    unfold inB joinI
    rw [seqI_canon _ (seqI_lt _)]
    have hs2 : seqI (up (canon (seqI E)) ++ [nextOf E F n]) = seqI E ++ tracks (p1 + p2, m) := hs
    rw [hs2, Bool.eq_iff_iff, List.contains_iff_mem, List.mem_append, Bool.or_eq_true, List.contains_iff_mem, decide_eq_true_iff]
    unfold tracks
    rw [List.mem_range'_1]
  rw [e]
  unfold leftB
  cases inB F t <;> cases inB E t <;> simp
theorem left_zero (E F : List (Int × Int)) (e : Nat) : norm (leftB E F e 0) = minusI F (joinI E) := by
  unfold minusI
  rw [norm_eq]
  intro t ht
  have e1 : inB (joinI E) t = inB E t := by unfold inB joinI; rw [seqI_canon _ (seqI_lt E)]
  rw [e1]
  unfold leftB
  have : decide (e ≤ t ∧ t < e + 0) = false := decide_eq_false (by omega)
  rw [this]; simp
theorem left_next (E F : List (Int × Int)) (e j : Nat) (h : e + j < 128) : minusI (norm (leftB E F e j)) [(((e + j : Nat) : Int), 1)] = norm (leftB E F e (j + 1)) := by
  unfold minusI
  rw [norm_eq]
  intro t ht
  have e1 : inB (norm (leftB E F e j)) t = leftB E F e j t := inB_canon _ t ht
  have e2 : inB [(((e + j : Nat) : Int), 1)] t = decide (t = e + j) := by
    unfold inB
    rw [seqI_one]
    have h3 := ex_nat (e + j) 1 (by omega)
    rw [show ((1 : Nat) : Int) = 1 from rfl] at h3
    rw [h3, Bool.eq_iff_iff, List.contains_iff_mem, decide_eq_true_iff]
    unfold tracks
    rw [List.mem_range'_1]
    omega
  rw [e1, e2]
  unfold leftB
  by_cases h1 : t = e + j
  · have h2 : decide (e ≤ t ∧ t < e + (j + 1)) = true := decide_eq_true (by omega)
    rw [h2, decide_eq_true h1]; simp
  · have h2 : decide (e ≤ t ∧ t < e + (j + 1)) = decide (e ≤ t ∧ t < e + j) := decide_eq_decide.2 (by omega)
    rw [h2, decide_eq_false h1]; simp
theorem left_in (E F : List (Int × Int)) (e j : Nat) : (FirstAt (seqI (norm (leftB E F e j))) ((e + j : Nat) : Int)).2 = (decide (e + j < 128) && (inB F (e + j) && !inB E (e + j))) := by
  show hasT (norm (leftB E F e j)) ((e + j : Nat) : Int) = _
  rw [hasT_norm]
  by_cases h : e + j < 128
  · rw [if_pos (by omega), decide_eq_true h]
    unfold leftB
    have : decide (e ≤ e + j ∧ e + j < e + j) = false := decide_eq_false (by omega)
    rw [show (((e + j : Nat) : Int)).toNat = e + j from rfl, this]
    simp
  · rw [if_neg (by omega), decide_eq_false h]; rfl
end Go.Proofs.Ytfdmieeldiljlaa
