import Derived.Test.YtimeebajpegknaaSpF
/-! The best run is the least one of those that are long enough. -/
namespace Go.Proofs.Ytimeebajpegknaa
open Go.Lib Go.ChangeShapes Go.WideShapes Go.ChangeAt Go.RowKit
open Go.Shelf Go.Sort

theorem norm_froms (B : Nat → Bool) : (norm B).Pairwise (fun p q => p.1 < q.1) := by
  have hs : (ofB B).Pairwise (· < ·) := by unfold ofB; exact List.Pairwise.filter _ List.pairwise_lt_range
  rw [← seqOf_canon (ofB B)] at hs
  unfold seqOf at hs
  rw [List.pairwise_flatMap] at hs
  have hf := fine_canon (ofB B) (ofB_lt B)
  unfold norm up
  rw [List.pairwise_map]
  refine List.Pairwise.imp_of_mem ?_ hs.2
  intro a b ha hb h
  have h1 := hf a ha
  have h2 := hf b hb
  have := h a.1 (by unfold tracks; rw [List.mem_range'_1]; omega) b.1 (by unfold tracks; rw [List.mem_range'_1]; omega)
  omega
/-- r is the least of the runs of a list that have n tracks -/
def Least (N : List (Int × Int)) (n : Int) (r : Int × Int) : Prop := r ∈ N ∧ n ≤ r.2 ∧ ∀ q ∈ N, n ≤ q.2 → ltOf cfUp q r = false
theorem least_unique {N : List (Int × Int)} {n : Int} {r q : Int × Int} (h1 : Least N n r) (h2 : Least N n q) : r = q :=
  totUp r q (h2.2.2 r h1.1 h1.2.1) (h1.2.2 q h2.1 h2.2.1)
theorem srtUp_pairwise (l : List (Int × Int)) : (srtUp l).Pairwise (fun x y => ltOf cfUp y x = false) := by
  have h := List.pairwise_mergeSort (le := fun x y => !(ltOf cfUp) y x) (fun a b c h1 h2 => by
      simp only [Bool.not_eq_true'] at h1 h2 ⊢
      exact swoUp.ntrans c b a h2 h1) (fun a b => by
      cases h : ltOf cfUp b a with
      | false => simp
      | true => simp [swoUp.asymmA h]) l
  exact h.imp (fun h => by simpa using h)
theorem srtDown_pairwise (l : List (Int × Int)) : (srtDown l).Pairwise (fun x y => ltOf cfDown y x = false) := by
  have h := List.pairwise_mergeSort (le := fun x y => !(ltOf cfDown) y x) (fun a b c h1 h2 => by
      simp only [Bool.not_eq_true'] at h1 h2 ⊢
      exact swoDown.ntrans c b a h2 h1) (fun a b => by
      cases h : ltOf cfDown b a with
      | false => simp
      | true => simp [swoDown.asymmA h]) l
  exact h.imp (fun h => by simpa using h)
theorem best_least (l : List (Int × Int)) (n : Int) (hn : 1 ≤ n) (r : Int × Int) (h : Least (norm (inB l)) n r) : BestAns l n = ((r.1, n), true) := by
  unfold BestAns
  rw [if_neg (by omega)]
  have hp : (srtUp (norm (inB l))).Perm (norm (inB l)) := List.mergeSort_perm _ _
  cases hf : (srtUp (norm (inB l))).find? (fun r => decide (n ≤ r.2)) with
  | none =>
    rw [List.find?_eq_none] at hf
    have := hf r (hp.mem_iff.2 h.1)
    simp at this
    have := h.2.1
    omega
  | some q =>
    rw [List.find?_eq_some_iff_append] at hf
    obtain ⟨hq, xs, ys, e, hno⟩ := hf
    have hl : Least (norm (inB l)) n q := by
      refine ⟨hp.mem_iff.1 (by rw [e]; simp), by simpa using hq, fun x hx hxn => ?_⟩
      have hx2 := hp.mem_iff.2 hx
      rw [e] at hx2
      have hpw := srtUp_pairwise (norm (inB l))
      rw [e, List.pairwise_append] at hpw
      rw [List.mem_append, List.mem_cons] at hx2
      rcases hx2 with hx2 | rfl | hx2
      · have := hno x hx2; simp at this; omega
      · exact swoUp.irrefl _
      · exact (List.pairwise_cons.1 hpw.2.1).1 x hx2
    rw [least_unique h hl]
theorem best_no (l : List (Int × Int)) (n : Int) (h : ∀ r ∈ norm (inB l), ¬ n ≤ r.2) : BestAns l n = ((0, 0), false) := by
  unfold BestAns
  by_cases h1 : n < 1
  · rw [if_pos h1]
  · rw [if_neg h1, find_none]
    intro r hr
    have hp : (srtUp (norm (inB l))).Perm (norm (inB l)) := List.mergeSort_perm _ _
    simpa using h r (hp.mem_iff.1 hr)
/-- what the specification's scan knows of the first k runs -/
def Scan (N : List (Int × Int)) (n : Int) (k : Nat) (b : Int × Int) : Prop :=
  (b = (0, 0) ∧ ∀ r ∈ N.take k, ¬ n ≤ r.2) ∨ (0 < b.2 ∧ Least (N.take k) n b)
theorem scan_zero (N : List (Int × Int)) (n : Int) : Scan N n 0 (0, 0) := .inl ⟨rfl, fun r h => by cases h⟩
theorem scan_no {N : List (Int × Int)} {n : Int} {k : Nat} {b : Int × Int} (h : Scan N n k b) (hk : k < N.length) (hx : ¬ n ≤ N[k].2) : Scan N n (k + 1) b := by
  unfold Scan Least at *
  rw [List.take_succ_eq_append_getElem hk]
  rcases h with ⟨e, h⟩ | ⟨h0, h1, h2, h3⟩
  · refine .inl ⟨e, fun r hr => ?_⟩
    rw [List.mem_append, List.mem_singleton] at hr
    rcases hr with hr | rfl
    · exact h r hr
    · exact hx
  · refine .inr ⟨h0, List.mem_append_left _ h1, h2, fun q hq hqn => ?_⟩
    rw [List.mem_append, List.mem_singleton] at hq
    rcases hq with hq | rfl
    · exact h3 q hq hqn
    · exact absurd hqn hx
theorem scan_first {N : List (Int × Int)} {n : Int} {k : Nat} {b : Int × Int} (h : Scan N n k b) (hb : b.2 = 0) (hk : k < N.length) (hx : n ≤ N[k].2) (hp : 0 < N[k].2) : Scan N n (k + 1) N[k] := by
  unfold Scan Least at *
  rw [List.take_succ_eq_append_getElem hk]
  rcases h with ⟨e, h⟩ | ⟨h0, _⟩
  · refine .inr ⟨hp, List.mem_append_right _ (List.mem_singleton.2 rfl), hx, fun q hq hqn => ?_⟩
    rw [List.mem_append, List.mem_singleton] at hq
    rcases hq with hq | rfl
    · exact absurd hqn (h q hq)
    · exact swoUp.irrefl _
  · omega
theorem scan_less {N : List (Int × Int)} {n : Int} {k : Nat} {b : Int × Int} (h : Scan N n k b) (hb : b.2 ≠ 0) (hk : k < N.length) (hx : n ≤ N[k].2) (hp : 0 < N[k].2) (hl : N[k].2 < b.2) : Scan N n (k + 1) N[k] := by
  unfold Scan Least at *
  rw [List.take_succ_eq_append_getElem hk]
  rcases h with ⟨e, _⟩ | ⟨h0, h1, h2, h3⟩
  · rw [e] at hb; exact absurd rfl hb
  · refine .inr ⟨hp, List.mem_append_right _ (List.mem_singleton.2 rfl), hx, fun q hq hqn => ?_⟩
    rw [List.mem_append, List.mem_singleton] at hq
    rcases hq with hq | rfl
    · have := h3 q hq hqn
      rw [ltUp, decide_eq_false_iff_not] at this ⊢
      omega
    · exact swoUp.irrefl _
theorem scan_keep {N : List (Int × Int)} {n : Int} {k : Nat} {b : Int × Int} (hN : N.Pairwise (fun p q => p.1 < q.1)) (h : Scan N n k b) (hb : b.2 ≠ 0) (hk : k < N.length) (hl : ¬ N[k].2 < b.2) : Scan N n (k + 1) b := by
  unfold Scan Least at *
  rw [List.take_succ_eq_append_getElem hk]
  rcases h with ⟨e, _⟩ | ⟨h0, h1, h2, h3⟩
  · rw [e] at hb; exact absurd rfl hb
  · refine .inr ⟨h0, List.mem_append_left _ h1, h2, fun q hq hqn => ?_⟩
    rw [List.mem_append, List.mem_singleton] at hq
    rcases hq with hq | rfl
    · exact h3 q hq hqn
    · rw [List.mem_take_iff_getElem] at h1
      obtain ⟨j, hj, e⟩ := h1
      rw [List.pairwise_iff_getElem] at hN
      have := hN j k (by omega) hk (by omega)
      rw [e] at this
      rw [ltUp, decide_eq_false_iff_not]
      omega
theorem scan_end {l : List (Int × Int)} {n : Int} (hn : 1 ≤ n) {b : Int × Int} (h : Scan (norm (inB l)) n (norm (inB l)).length b) : BestAns l n = if b.2 = 0 then ((0, 0), false) else ((b.1, n), true) := by
  unfold Scan at h
  rw [List.take_length] at h
  rcases h with ⟨e, h⟩ | ⟨h0, h⟩
  · rw [e, if_pos rfl]; exact best_no l n h
  · rw [if_neg (by omega)]; exact best_least l n hn b h
end Go.Proofs.Ytimeebajpegknaa
