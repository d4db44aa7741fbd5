import Derived.Test.YtimeebajpegknaaSpO
/-! Tracks taken from sorted runs, as the specification takes them: the mathematics. -/
namespace Go.Proofs.Ytimeebajpegknaa

/-- the first n tracks of runs, each run cut on its own -/
def cutR : List (Int × Int) → Int → List (Int × Int)
  | [], _ => []
  | r :: l, n => if 0 < n then (r.1, min r.2 n) :: cutR l (n - min r.2 n) else []
theorem cutR_zero (l : List (Int × Int)) (n : Int) (h : n ≤ 0) : cutR l n = [] := by
  cases l with
  | nil => rfl
  | cons r l => rw [cutR, if_neg (by omega)]
def Good (l : List (Int × Int)) : Prop := ∀ r ∈ l, 0 ≤ r.1 ∧ 0 < r.2 ∧ r.1 + r.2 ≤ 128
def Wide (l : List (Int × Int)) : Prop := ∀ r ∈ l, ∀ s ∈ l, r.1 + r.2 ≠ s.1
theorem cutR_good (l : List (Int × Int)) (hg : Good l) : ∀ n, Good (cutR l n) := by
  induction l with
  | nil => intro n r h; cases h
  | cons r l ih =>
    intro n
    rw [cutR]
    split
    · have := hg r (by simp)
      intro s hs
      rcases List.mem_cons.1 hs with rfl | hs
      · simp only; omega
      · exact ih (fun x hx => hg x (by simp [hx])) _ s hs
    · intro s hs; cases hs
theorem ex_good (a b : Int) (h1 : 0 ≤ a) (h2 : 0 < b) (h3 : a + b ≤ 128) : ex (a, b) = (a.toNat, b.toNat) := by
  have := ex_fine (a.toNat, b.toNat) ⟨by simp only; omega, by simp only; omega⟩
  simp only at this
  rw [Int.toNat_of_nonneg h1, Int.toNat_of_nonneg (by omega)] at this
  exact this
theorem seqI_cons (r : Int × Int) (l : List (Int × Int)) : seqI (r :: l) = tracks (ex r) ++ seqI l := by
  rw [show r :: l = [r] ++ l from rfl, seqI_append, seqI_one]
theorem cutR_seq (l : List (Int × Int)) (hg : Good l) : ∀ n, seqI (cutR l n) = (seqI l).take n.toNat := by
  induction l with
  | nil => intro n; simp [cutR, seqI_nil]
  | cons r l ih =>
    intro n
    have hr := hg r (by simp)
    have ih := ih (fun x hx => hg x (by simp [hx]))
    by_cases h0 : 0 < n
    · rw [cutR, if_pos h0, seqI_cons, seqI_cons, ih]
      by_cases hc : n ≤ r.2
      · rw [show min r.2 n = n from by omega, ex_good r.1 n hr.1 h0 (by omega), show r = (r.1, r.2) from rfl, ex_good r.1 r.2 hr.1 hr.2.1 hr.2.2]
        simp only [Int.sub_self, Int.toNat_zero, List.take_zero, List.append_nil]
        have e : r.2.toNat = n.toNat + (r.2.toNat - n.toNat) := by omega
        rw [e, tracks_more, List.append_assoc, List.take_left' (by simp [tracks])]
      · rw [show min r.2 n = r.2 from by omega, show r = (r.1, r.2) from rfl, ex_good r.1 r.2 hr.1 hr.2.1 hr.2.2]
        rw [List.take_append, List.take_of_length_le (show (tracks (r.1.toNat, r.2.toNat)).length ≤ n.toNat by simp [tracks]; omega)]
        congr 2
        simp [tracks]
        omega
    · rw [cutR_zero _ _ (by omega), show n.toNat = 0 from by omega]; simp [seqI_nil]
theorem cutR_take (l : List (Int × Int)) : ∀ (M : Nat) n, cutR (l.take M) n = (cutR l n).take M := by
  induction l with
  | nil => intro M n; simp [cutR]
  | cons r l ih =>
    intro M n
    cases M with
    | zero => simp [cutR]
    | succ M =>
      rw [List.take_succ_cons, cutR, cutR]
      split
      · rw [ih, List.take_succ_cons]
      · rfl
theorem cutR_canon (l : List (Int × Int)) (hg : Good l) (hw : Wide l) : ∀ (n : Int) (acc : List (Nat × Nat)), (∀ p ∈ acc.getLast?, ∀ s ∈ l, ((p.1 : Int) + p.2) ≠ s.1) → up ((seqI (cutR l n)).foldl add1 acc) = up acc ++ cutR l n := by
  induction l with
  | nil => intro n acc _; simp [cutR, seqI_nil]
  | cons r l ih =>
    intro n acc hp
    have hr := hg r (by simp)
    have ih := ih (fun x hx => hg x (by simp [hx])) (fun x hx y hy => hw x (by simp [hx]) y (by simp [hy]))
    by_cases h0 : 0 < n
    · rw [cutR, if_pos h0, seqI_cons, ex_good r.1 (min r.2 n) hr.1 (by omega) (by omega), List.foldl_append, ← add_run]
      have hadd : addR acc (r.1.toNat, (min r.2 n).toNat) = acc ++ [(r.1.toNat, (min r.2 n).toNat)] := by
        rcases snoc_or acc with rfl | ⟨a, p, rfl⟩
        · rw [addR_nil _ (by simp only; omega)]; rfl
        · have := hp p (by simp) r (by simp)
          rw [addR_no _ _ _ (by simp only; omega) (by simp only; omega)]
      have hup : up (acc ++ [(r.1.toNat, (min r.2 n).toNat)]) = up acc ++ [(r.1, min r.2 n)] := by
        unfold up
        rw [List.map_append]
        simp only [List.map_cons, List.map_nil]
        rw [Int.toNat_of_nonneg hr.1, Int.toNat_of_nonneg (by omega)]
      rw [hadd]
      by_cases hc : n ≤ r.2
      · rw [cutR_zero l _ (by omega), seqI_nil, List.foldl_nil, hup]
      · rw [ih, hup, List.append_assoc]; · rfl
        intro p hp s hs
        have : p = (r.1.toNat, (min r.2 n).toNat) := by simpa using hp.symm
        subst this
        have := hw r (by simp) s (by simp [hs])
        simp only
        omega
    · rw [cutR_zero _ _ (by omega)]; simp [seqI_nil]
theorem good_len (l : List (Int × Int)) (hg : Good l) (M : Nat) (h : M < l.length) : (seqI (l.take M)).length < (seqI l).length := by
  have e : seqI l = seqI (l.take M) ++ seqI (l.drop M) := by rw [← seqI_append, List.take_append_drop]
  have e2 := List.drop_eq_getElem_cons h
  have hr := hg l[M] (List.getElem_mem h)
  rw [e, List.length_append, e2, seqI_cons, List.length_append]
  have : (tracks (ex l[M])).length = l[M].2.toNat := by
    rw [show l[M] = (l[M].1, l[M].2) from rfl, ex_good _ _ hr.1 hr.2.1 hr.2.2]; simp [tracks]
  omega
theorem canon_far (B : Nat → Bool) : ∀ k, (canon (upto B k)).Pairwise (fun p q => p.1 + p.2 < q.1) ∧ ∀ p ∈ canon (upto B k), p.1 + p.2 ≤ k := by
  intro k
  induction k with
  | zero => exact ⟨List.Pairwise.nil, fun p h => by cases h⟩
  | succ k ih =>
    rw [upto_succ]
    split
    · rw [canon_snoc]
      rcases snoc_or (canon (upto B k)) with e | ⟨a, p, e⟩
      · rw [e, addR_nil _ (by simp)]; simp
      · rw [e] at ih ⊢
        have ih1 := List.pairwise_append.1 ih.1
        have hp := ih.2 p (by simp)
        by_cases hk : p.1 + p.2 = k
        · rw [addR_yes _ _ _ (by simp) hk]
          refine ⟨List.pairwise_append.2 ⟨ih1.1, List.pairwise_singleton _ _, fun x hx y hy => ?_⟩, fun x hx => ?_⟩
          · rw [List.mem_singleton] at hy; subst hy
            exact ih1.2.2 x hx p (by simp)
          · rcases List.mem_append.1 hx with hx | hx
            · have := ih.2 x (List.mem_append_left _ hx); omega
            · rw [List.mem_singleton] at hx; subst hx; simp only; omega
        · rw [addR_no _ _ _ (by simp) hk]
          refine ⟨List.pairwise_append.2 ⟨ih.1, List.pairwise_singleton _ _, fun x hx y hy => ?_⟩, fun x hx => ?_⟩
          · rw [List.mem_singleton] at hy; subst hy
            simp only
            rcases List.mem_append.1 hx with hx | hx
            · have := ih1.2.2 x hx p (by simp); omega
            · rw [List.mem_singleton] at hx; subst hx; omega
          · rcases List.mem_append.1 hx with hx | hx
            · have := ih.2 x hx; omega
            · rw [List.mem_singleton] at hx; subst hx; simp
    · exact ⟨ih.1, fun p hp => by have := ih.2 p hp; omega⟩
theorem norm_wide (B : Nat → Bool) : Wide (norm B) := by
  have h1 := (canon_far B 128).1
  have hpos := norm_counts B
  have e : norm B = up (canon (upto B 128)) := rfl
  have h2 : (norm B).Pairwise (fun p q => p.1 + p.2 ≠ q.1 ∧ q.1 + q.2 ≠ p.1) := by
    have h3 : (norm B).Pairwise (fun p q => p.1 + p.2 < q.1) := by
      rw [e]; unfold up
      rw [List.pairwise_map]
      exact h1.imp (fun h => by simp only; omega)
    refine List.Pairwise.imp_of_mem ?_ h3
    intro a b ha hb h
    have := hpos b hb
    have := hpos a ha
    omega
  intro r hr s hs
  obtain ⟨i, hi, rfl⟩ := List.getElem_of_mem hr
  obtain ⟨j, hj, rfl⟩ := List.getElem_of_mem hs
  rw [List.pairwise_iff_getElem] at h2
  rcases Nat.lt_trichotomy i j with h | h | h
  · exact (h2 i j hi hj h).1
  · subst h; have := hpos _ hr; omega
  · exact (h2 j i hj hi h).2
theorem srtDown_mem (l : List (Int × Int)) (r : Int × Int) : r ∈ srtDown l ↔ r ∈ l := (List.mergeSort_perm _ _).mem_iff
theorem srt_good (B : Nat → Bool) : Good (srtDown (norm B)) := fun r hr => norm_counts B r ((srtDown_mem _ r).1 hr)
theorem srt_wide (B : Nat → Bool) : Wide (srtDown (norm B)) := fun r hr s hs => norm_wide B r ((srtDown_mem _ r).1 hr) s ((srtDown_mem _ s).1 hs)
/-- what the specification's loop leaves is what Allocate answers -/
theorem alloc_cut (l : List (Int × Int)) (n most : Int) (h1 : 1 ≤ n) (h2 : 1 ≤ most) (hb : (BestAns l n).2 = false) :
    AllocAns l n most = if 0 < n - ((seqI (cutR (srtDown (norm (inB l))) n)).length : Int) ∨ most < ((cutR (srtDown (norm (inB l))) n).length : Int) then ([], 14) else (cutR (srtDown (norm (inB l))) n, 0) := by
  unfold AllocAns
  rw [if_neg (by omega), if_neg (by rw [hb]; simp)]
  have hg := srt_good (inB l)
  have hw := srt_wide (inB l)
  obtain ⟨S, hS⟩ : ∃ S, S = srtDown (norm (inB l)) := ⟨_, rfl⟩
  rw [← hS] at hg hw ⊢
  have e1 : (seqI (S.take most.toNat)).take n.toNat = seqI ((cutR S n).take most.toNat) := by
    rw [← cutR_take, cutR_seq _ (fun r hr => hg r (List.mem_of_mem_take hr))]
  rw [e1]
  have hq : (seqI (cutR S n)).length ≤ n.toNat := by rw [cutR_seq _ hg, List.length_take]; omega
  by_cases hm : most < ((cutR S n).length : Int)
  · have := good_len (cutR S n) (cutR_good S hg n) most.toNat (by omega)
    rw [if_pos (by omega), if_pos (.inr hm)]
  · rw [List.take_of_length_le (by omega)]
    by_cases h0 : 0 < n - ((seqI (cutR S n)).length : Int)
    · rw [if_pos (by omega), if_pos (.inl h0)]
    · rw [if_neg (by omega), if_neg (by omega)]
      have := cutR_canon S hg hw n [] (fun p hp => by simp at hp)
      rw [show up (canon (seqI (cutR S n))) = cutR S n from this]
end Go.Proofs.Ytimeebajpegknaa
