import Derived.Test.YtfdmieeldiljlaaSpY2
import Derived.Test.YtfdmieeldiljlaaSpW
/-! What Extend keeps. -/
namespace Go.Proofs.Ytfdmieeldiljlaa

theorem tracks_nodup (f c : Nat) : (tracks (f, c)).Nodup := by unfold tracks; exact List.nodup_range'
/-- a list of extents with new tracks behind the old ones -/
structure Longer (E F l : List (Int × Int)) (n : Int) (X : List Nat) : Prop where
  eq : l = up (canon (seqI E ++ X))
  len : (X.length : Int) = n
  nodup : X.Nodup
  free : ∀ t ∈ X, t < 128 ∧ t ∈ seqI F ∧ t ∉ seqI E
  few : (l.length : Int) ≤ max ((joinI E).length : Int) 16
theorem ext_keeps (E F : List (Int × Int)) (n : Int) (h : (ExtAns E F n).2 = 0) : 1 ≤ n ∧ 0 < (seqI E).length ∧ ∃ X, Longer E F (ExtAns E F n).1 n X := by
  unfold ExtAns at h ⊢
  by_cases h1 : n < 1 ∨ (seqI E).length = 0
  · rw [if_pos h1] at h; cases h
  rw [if_neg h1] at h ⊢
  have hne : seqI E ≠ [] := fun e => h1 (.inr (by rw [e]; rfl))
  have hn : 1 ≤ n := by omega
  refine ⟨hn, by omega, ?_⟩
  obtain ⟨l, p1, p2, hc, hJ, hp2, hp, hend, hlast⟩ := joinI_snoc E hne
  obtain ⟨m, m1, m2, m3, m4, m5, m6, m7⟩ := next_run E F n hn p1 p2 hend hlast
  have m8 : 0 < m → p1 + p2 + m ≤ 128 := by
    intro h0
    have h3 := (m6 (m - 1) (by omega)).1
    omega
  have hnj := next_join E F n l p1 p2 m hc m3 m4 m8
  have hns := next_seq E F n p1 p2 m m3 m4 m8
  have hJl : (joinI E).length = l.length + 1 := by rw [hJ]; simp [up_len]
  have hJ2l : (joinI (joinI E ++ [nextOf E F n])).length = l.length + 1 := by rw [hnj]; simp [up_len]
  have hseq2 : seqI (joinI (joinI E ++ [nextOf E F n])) = seqI E ++ tracks (p1 + p2, m) := by
    show seqI (up (canon (seqI (joinI E ++ [nextOf E F n])))) = _
    rw [seqI_canon _ (seqI_lt _), hns]
  have hfree : ∀ t ∈ tracks (p1 + p2, m), t < 128 ∧ t ∈ seqI F ∧ t ∉ seqI E := by
    intro t ht
    unfold tracks at ht
    rw [List.mem_range'_1] at ht
    have h3 := m6 (t - (p1 + p2)) (by simp only at ht; omega)
    rw [show p1 + p2 + (t - (p1 + p2)) = t by simp only at ht; omega] at h3
    have h4 := h3.2
    rw [Bool.and_eq_true] at h4
    refine ⟨h3.1, List.contains_iff_mem.1 h4.1, fun hm => ?_⟩
    have h5 : inB E t = true := List.contains_iff_mem.2 hm
    rw [h5] at h4
    exact absurd h4.2 (by simp)
  rw [m1] at h ⊢
  by_cases h2 : n - (m : Int) = 0
  · rw [if_pos h2] at h ⊢
    refine ⟨tracks (p1 + p2, m), ⟨?_, ?_, tracks_nodup _ _, hfree, ?_⟩⟩
    · show up (canon (seqI (joinI E ++ [nextOf E F n]))) = _
      rw [hns]
    · rw [tracks_len]; simp only; omega
    · simp only; rw [hJ2l, hJl]; omega
  · rw [if_neg h2] at h ⊢
    obtain ⟨J2, hJ2⟩ : ∃ J2, J2 = joinI (joinI E ++ [nextOf E F n]) := ⟨_, rfl⟩
    rw [← hJ2] at h hJ2l hseq2 ⊢
    by_cases h3 : (AllocAns (minusI F J2) (n - m) (16 - (J2.length : Int))).2 = 0
    · rw [if_pos h3] at h ⊢
      have hmost : 1 ≤ 16 - (J2.length : Int) := by
        apply Classical.byContradiction
        intro hx
        unfold AllocAns at h3
        rw [if_pos (.inr (by omega))] at h3
        cases h3
      rcases alloc_within (minusI F J2) (n - m) (16 - (J2.length : Int)) (by omega) hmost with ⟨e, _⟩ | ⟨_, a2, a3, a4, a5⟩
      · rw [e] at h3; cases h3
      · obtain ⟨Z, hZ⟩ : ∃ Z, Z = (AllocAns (minusI F J2) (n - m) (16 - (J2.length : Int))).1 := ⟨_, rfl⟩
        rw [← hZ] at a2 a3 a4 a5 ⊢
        have hz : ∀ t ∈ seqI Z, t ∈ seqI F ∧ t ∉ seqI J2 := by
          intro t ht
          have h6 := a5 t ht
          have h7 : inB (minusI F J2) t = true := List.contains_iff_mem.2 h6
          unfold minusI at h7
          have h8 : inB (norm fun t => inB F t && !inB J2 t) t = (inB F t && !inB J2 t) := inB_canon _ t (seqI_lt Z t ht)
          rw [h8, Bool.and_eq_true] at h7
          refine ⟨List.contains_iff_mem.1 h7.1, fun hm => ?_⟩
          have h9 : inB J2 t = true := List.contains_iff_mem.2 hm
          rw [h9] at h7
          exact absurd h7.2 (by simp)
        refine ⟨tracks (p1 + p2, m) ++ seqI Z, ⟨?_, ?_, ?_, ?_, ?_⟩⟩
        · show up (canon (seqI (J2 ++ Z))) = _
          rw [seqI_append, hseq2, List.append_assoc]
        · rw [List.length_append, tracks_len]; simp only; omega
        · rw [List.nodup_append]
          refine ⟨tracks_nodup _ _, a4, fun t ht u hu e => ?_⟩
          subst e
          exact (hz t hu).2 (by rw [hseq2]; exact List.mem_append_right _ ht)
        · intro t ht
          rw [List.mem_append] at ht
          rcases ht with ht | ht
          · exact hfree t ht
          · have h6 := hz t ht
            exact ⟨seqI_lt Z t ht, h6.1, fun hm => h6.2 (by rw [hseq2]; exact List.mem_append_left _ hm)⟩
        · have h6 := joinI_len (J2 ++ Z)
          rw [List.length_append] at h6
          simp only
          omega
    · rw [if_neg h3] at h; cases h
theorem ext_error (E F : List (Int × Int)) (n : Int) (h : (ExtAns E F n).2 ≠ 0) : (ExtAns E F n).1 = [] := by
  unfold ExtAns at h ⊢
  split
  · rfl
  · rename_i h1
    rw [if_neg h1] at h
    split
    · rename_i h2; rw [if_pos h2] at h; exact absurd rfl h
    · rename_i h2
      rw [if_neg h2] at h
      split
      · rename_i h3; rw [if_pos h3] at h; exact absurd rfl h
      · rfl
namespace Longer
variable {E F l : List (Int × Int)} {n : Int} {X : List Nat}
theorem lt (h : Longer E F l n X) : ∀ t ∈ seqI E ++ X, t < 128 := fun t ht => by
  rw [List.mem_append] at ht
  exact ht.elim (seqI_lt E t) (fun h2 => (h.free t h2).1)
theorem seq (h : Longer E F l n X) : seqI l = seqI E ++ X := by rw [h.eq, seqI_canon _ h.lt]
theorem ltX (h : Longer E F l n X) : ∀ t ∈ X, t < 128 := fun t ht => (h.free t ht).1
theorem take (h : Longer E F l n X) : up (canon ((seqI l).take (seqI E).length)) = joinI E := by rw [h.seq, List.take_left]; rfl
theorem drop (h : Longer E F l n X) : up (canon ((seqI l).drop (seqI E).length)) = up (canon X) := by rw [h.seq, List.drop_left]
theorem more (h : Longer E F l n X) : seqI (up (canon X)) = X := seqI_canon _ h.ltX
theorem disjoint (h : Longer E F l n X) : decide ((seqI (up (canon X))).length = (ofB (inB (up (canon X)))).length) = true := decide_eq_true ((disjoint_iff _).2 (by rw [h.more]; exact h.nodup))
theorem inX (h : Longer E F l n X) (t : Nat) : inB (up (canon X)) t = true ↔ t ∈ X := by unfold inB; rw [h.more, List.contains_iff_mem]
theorem minus (h : Longer E F l n X) : norm (fun t => inB (up (canon X)) t && !inB F t) = [] := by
  rw [← norm_false, norm_eq]
  intro t _
  cases hp : inB (up (canon X)) t with
  | false => rfl
  | true =>
    have h2 : inB F t = true := List.contains_iff_mem.2 (h.free t ((h.inX t).1 hp)).2.1
    simp [h2]
theorem common (h : Longer E F l n X) : norm (fun t => inB (up (canon X)) t && inB E t) = [] := by
  rw [← norm_false, norm_eq]
  intro t _
  cases hp : inB (up (canon X)) t with
  | false => rfl
  | true =>
    have h2 : inB E t = false := by
      cases he : inB E t with
      | false => rfl
      | true => exact absurd (List.contains_iff_mem.1 he) (h.free t ((h.inX t).1 hp)).2.2
    simp [h2]
theorem release (h : Longer E F l n X) (h0 : 0 < (seqI E).length) : RelAns l (seqI E).length = ((joinI E, norm (inB (up (canon X)))), 0) := by
  unfold RelAns
  have h1 : ¬ (((seqI E).length : Int) < 1 ∨ ((seqI l).length : Int) < ((seqI E).length : Int)) := by
    rw [h.seq, List.length_append]; omega
  rw [if_neg h1]
  rw [show (((seqI E).length : Int)).toNat = (seqI E).length from rfl, h.take, h.drop]
  have e : minusI (up (canon X)) (joinI E) = norm (inB (up (canon X))) := by
    unfold minusI
    rw [norm_eq]
    intro t _
    cases hp : inB (up (canon X)) t with
    | false => rfl
    | true =>
      have h2 : inB (joinI E) t = false := by
        cases he : inB (joinI E) t with
        | false => rfl
        | true =>
          have h3 : t ∈ seqI (joinI E) := List.contains_iff_mem.1 he
          unfold joinI at h3
          rw [seqI_canon _ (seqI_lt E)] at h3
          exact absurd h3 (h.free t ((h.inX t).1 hp)).2.2
      simp [h2]
  rw [e]
theorem size (h : Longer E F l n X) : ((seqI l).length : Int) = ((seqI E).length : Int) + n := by rw [h.seq, List.length_append]; have := h.len; omega
theorem moreLen (h : Longer E F l n X) : (up (canon X)).length ≤ 128 := by
  have h1 := canon_len X
  have h2 : X.length ≤ 128 := by
    have h3 := (nodup_cnt X h.ltX)
    have h4 := h3.2.2 h.nodup
    have h5 := cnt_le 128 (fun t => X.contains t)
    omega
  rw [up_len]; omega
end Longer
end Go.Proofs.Ytfdmieeldiljlaa
