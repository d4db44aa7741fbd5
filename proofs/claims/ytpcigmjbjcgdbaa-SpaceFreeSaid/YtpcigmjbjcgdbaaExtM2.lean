import Derived.Test.YtpcigmjbjcgdbaaExtM
namespace Go.Proofs.Ytpcigmjbjcgdbaa
theorem seqI_take_succ (l : List (Int × Int)) (k : Nat) (h : k < l.length) : seqI (l.take (k + 1)) = seqI (l.take k) ++ tracks (ex l[k]) := by
  rw [List.take_succ_eq_append_getElem h, seqI_append, seqI_one]
theorem tracks_len (r : Nat × Nat) : (tracks r).length = r.2 := by unfold tracks; simp
theorem seqI_len_take (l : List (Int × Int)) (k : Nat) (h : k < l.length) : (seqI (l.take (k + 1))).length = (seqI (l.take k)).length + (ex l[k]).2 := by
  rw [seqI_take_succ l k h, List.length_append, tracks_len]
theorem seqI_len_le (l : List (Int × Int)) : (seqI l).length ≤ l.length * 128 := by
  induction l with
  | nil => simp [seqI_nil]
  | cons x l ih =>
    have e : seqI (x :: l) = tracks (ex x) ++ seqI l := by unfold seqI seqOf; simp
    have := (ex_le x).1
    rw [e, List.length_append, tracks_len]
    simp only [List.length_cons]; omega
theorem seqI_split (l : List (Int × Int)) (k : Nat) (h : k < l.length) : seqI l = seqI (l.take k) ++ (tracks (ex l[k]) ++ seqI (l.drop (k + 1))) := by
  conv => lhs; rw [← List.take_append_drop (k + 1) l]
  rw [seqI_append, seqI_take_succ l k h, List.append_assoc]
theorem canon_take_succ (l : List (Int × Int)) (k : Nat) (h : k < l.length) : canon (seqI (l.take (k + 1))) = addR (canon (seqI (l.take k))) (ex l[k]) := by
  rw [seqI_take_succ l k h, canon_add]
theorem canon_seqI_len (l : List (Int × Int)) : ∀ k, k ≤ l.length → (canon (seqI (l.take k))).length ≤ k := by
  intro k
  induction k with
  | zero => intro _; simp [seqI_nil, canon_nil]
  | succ k ih =>
    intro h
    rw [canon_take_succ l k (by omega)]
    have h1 := addR_len (canon (seqI (l.take k))) (ex l[k])
    have h2 := ih (by omega)
    omega
theorem cut_step (S : List Nat) (F C N K : Nat) (hK : K = min C (N - S.length)) : (S ++ tracks (F, C)).take N = S.take N ++ tracks (F, K) ∧ (S ++ tracks (F, C)).drop N = S.drop N ++ tracks (F + K, C - K) := by
  have e : tracks (F, C) = tracks (F, K) ++ tracks (F + K, C - K) := by rw [← tracks_more]; congr 2; omega
  have h1 : (tracks (F, K)).length = K := tracks_len _
  have h2 : (tracks (F + K, C - K)).length = C - K := tracks_len _
  rw [List.take_append, List.drop_append, e]
  by_cases hc : N - S.length ≤ C
  · have hK2 : K = N - S.length := by omega
    constructor
    · congr 1
      exact List.take_left' (by omega)
    · congr 1
      exact List.drop_left' (by omega)
  · have hK2 : K = C := by omega
    have e3 : tracks (F + K, C - K) = [] := by unfold tracks; simp; omega
    rw [e3, List.append_nil]
    constructor
    · congr 1
      exact List.take_of_length_le (by omega)
    · congr 1
      rw [List.drop_eq_nil_iff]; omega
/-- the least index of a track in a sequence -/
def FirstAt (s : List Nat) (t : Int) : Int × Bool := match s.findIdx? (fun x : Nat => (x : Int) == t) with | some i => ((i : Int), true) | none => (0, false)
theorem firstAt_no (s : List Nat) (t : Int) (h : ∀ x ∈ s, (x : Int) ≠ t) : FirstAt s t = (0, false) := by
  unfold FirstAt
  have : s.findIdx? (fun x : Nat => (x : Int) == t) = none := by rw [List.findIdx?_eq_none_iff]; intro x hx; simp [h x hx]
  rw [this]
theorem range'_find (f c : Nat) (t : Int) (h1 : (f : Int) ≤ t) (h2 : t < f + c) : (List.range' f c).findIdx? (fun x : Nat => (x : Int) == t) = some (t - f).toNat := by
  induction c generalizing f with
  | zero => omega
  | succ c ih =>
    rw [List.range'_succ, List.findIdx?_cons]
    by_cases e : (f : Int) = t
    · rw [if_pos (by simpa using e)]; congr 1; omega
    · rw [if_neg (by simpa using e), ih (f + 1) (by omega) (by omega)]
      simp only [Option.map_some, Option.some.injEq]; omega
theorem firstAt_yes (a b : List Nat) (f c : Nat) (t : Int) (h : ∀ x ∈ a, (x : Int) ≠ t) (h1 : (f : Int) ≤ t) (h2 : t < f + c) : FirstAt (a ++ (tracks (f, c) ++ b)) t = ((a.length : Int) + (t - f), true) := by
  unfold FirstAt
  have e1 : a.findIdx? (fun x : Nat => (x : Int) == t) = none := by rw [List.findIdx?_eq_none_iff]; intro x hx; simp [h x hx]
  rw [List.findIdx?_append, List.findIdx?_append, e1]
  unfold tracks
  rw [range'_find f c t h1 h2]
  simp only [Option.none_or, Option.some_or, Option.map_some]
  rw [Prod.mk.injEq]
  exact ⟨by simp; omega, rfl⟩
theorem firstAt_snd (s : List Nat) (t : Int) : (FirstAt s t).2 = s.any (fun x : Nat => (x : Int) == t) := by
  unfold FirstAt
  cases h : s.findIdx? (fun x : Nat => (x : Int) == t) with
  | none => rw [List.findIdx?_eq_none_iff] at h; symm; simp only [List.any_eq_false]; intro x hx; simp [h x hx]
  | some i =>
    rw [List.findIdx?_eq_some_iff_getElem] at h
    obtain ⟨hi, hp, _⟩ := h
    symm; simp only [List.any_eq_true]; exact ⟨_, List.getElem_mem hi, hp⟩
theorem tracks_no (f c : Nat) (t : Int) (h : ¬ ((f : Int) ≤ t ∧ t < f + c)) : ∀ x ∈ tracks (f, c), (x : Int) ≠ t := by
  intro x hx e
  unfold tracks at hx
  rw [List.mem_range'_1] at hx
  exact h (by omega)
theorem firstAt_le (s : List Nat) (t : Int) : 0 ≤ (FirstAt s t).1 ∧ (FirstAt s t).1 ≤ s.length := by
  unfold FirstAt
  cases h : s.findIdx? (fun x : Nat => (x : Int) == t) with
  | none => simp only; omega
  | some i =>
    rw [List.findIdx?_eq_some_iff_getElem] at h
    obtain ⟨hi, _⟩ := h
    simp only; omega
/-- the track with an index -/
def AtSeq (s : List Nat) (i : Int) : Int × Bool := if i < 0 then (0, false) else match s[i.toNat]? with | some t => ((t : Int), true) | none => (0, false)
theorem atSeq_neg (s : List Nat) (i : Int) (h : i < 0) : AtSeq s i = (0, false) := by unfold AtSeq; rw [if_pos h]
theorem atSeq_no (s : List Nat) (i : Int) (h : (s.length : Int) ≤ i) : AtSeq s i = (0, false) := by
  unfold AtSeq; rw [if_neg (by omega), List.getElem?_eq_none (by omega)]
theorem atSeq_yes (a b : List Nat) (f c : Nat) (i : Int) (h1 : (a.length : Int) ≤ i) (h2 : i < a.length + c) : AtSeq (a ++ (tracks (f, c) ++ b)) i = ((f : Int) + (i - a.length), true) := by
  unfold AtSeq
  rw [if_neg (by omega), List.getElem?_append_right (by omega), List.getElem?_append_left (by rw [tracks_len]; simp only; omega)]
  unfold tracks
  rw [List.getElem?_range' (by simp only; omega)]
  simp only [Prod.mk.injEq, and_true]; omega
theorem addR_end (l : List (Nat × Nat)) (f c : Nat) (h : c ≠ 0) : ∃ l' p, addR l (f, c) = l' ++ [p] ∧ p.1 + p.2 = f + c := by
  rcases snoc_or l with rfl | ⟨l', p, rfl⟩
  · exact ⟨[], (f, c), by rw [addR_nil _ h]; rfl, rfl⟩
  · by_cases e : p.1 + p.2 = f
    · exact ⟨l', (p.1, p.2 + c), addR_yes _ _ _ h e, by simp only; omega⟩
    · exact ⟨l' ++ [p], (f, c), addR_no _ _ _ h e, rfl⟩
theorem upto_prev (B : Nat → Bool) (k : Nat) (h : B k = true) : ∃ l' p, canon (upto B (k + 1)) = l' ++ [p] ∧ p.1 + p.2 = k + 1 := by
  rw [upto_succ, if_pos h, canon_snoc]
  exact addR_end _ k 1 (by simp)
theorem upto_new (B : Nat → Bool) (k : Nat) (hk : k ≤ 128) (h : ∀ j, j + 1 = k → B j = false) (l' : List (Nat × Nat)) (p : Nat × Nat) (e : canon (upto B k) = l' ++ [p]) : p.1 + p.2 ≠ k := by
  have hlt : ∀ t ∈ upto B k, t < 128 := fun t ht => by unfold upto at ht; rw [List.mem_filter, List.mem_range] at ht; omega
  have hf := fine_canon (upto B k) hlt p (by rw [e]; simp)
  have hs := seqOf_canon (upto B k)
  rw [e, seqOf_append, seqOf_one] at hs
  have hm : p.1 + p.2 - 1 ∈ upto B k := by
    rw [← hs, List.mem_append]; right; unfold tracks; rw [List.mem_range'_1]; omega
  unfold upto at hm
  rw [List.mem_filter, List.mem_range] at hm
  intro h2
  have := h (p.1 + p.2 - 1) (by omega)
  rw [hm.2] at this
  cases this
end Go.Proofs.Ytpcigmjbjcgdbaa
