import Derived.Test.YtpcigmjbjcgdbaaExtM4
namespace Go.Proofs.Ytpcigmjbjcgdbaa
theorem firstAt_mem (S : List Nat) (i : Nat) (h : i < S.length) : ∃ k, k ≤ i ∧ FirstAt S ((S[i] : Nat) : Int) = ((k : Int), true) ∧ ∃ hk : k < S.length, S[k] = S[i] := by
  unfold FirstAt
  cases hf : S.findIdx? (fun x : Nat => (x : Int) == (S[i] : Nat)) with
  | none =>
    rw [List.findIdx?_eq_none_iff] at hf
    have := hf S[i] (List.getElem_mem _)
    simp at this
  | some k =>
    rw [List.findIdx?_eq_some_iff_getElem] at hf
    obtain ⟨hk, hp, hno⟩ := hf
    refine ⟨k, ?_, rfl, hk, by have := beq_iff_eq.1 hp; omega⟩
    rcases Nat.lt_or_ge i k with hik | hik
    · have := hno i hik; simp at this
    · exact hik
theorem atSeq_get (S : List Nat) (i : Nat) (h : i < S.length) : AtSeq S i = (((S[i] : Nat) : Int), true) := by
  unfold AtSeq
  rw [if_neg (by omega), show ((i : Int)).toNat = i from by omega, List.getElem?_eq_getElem h]
theorem not_disjoint (l : List (Int × Int)) (k i : Nat) (hk : k < (seqI l).length) (hi : i < (seqI l).length) (h : k < i) (e : (seqI l)[k] = (seqI l)[i]) : decide ((seqI l).length = (ofB (inB l)).length) = false := by
  rw [decide_eq_false_iff_not, disjoint_iff, nodup_get]
  intro h2
  exact h2 k i hk hi h e
def parts2 (l : List (Int × Int)) (N : Nat) : List (Int × Int) := up (canon ((seqI l).take N)) ++ up (canon ((seqI l).drop N))
theorem parts2_seq (l : List (Int × Int)) (N : Nat) : seqI (parts2 l N) = seqI l := by
  unfold parts2
  rw [seqI_append, seqI_canon _ (take_lt l N), seqI_canon _ (drop_lt l N), List.take_append_drop]
theorem parts2_bd (l : List (Int × Int)) (N : Nat) : Bd (parts2 l N) := Bd.append (seq_bd _ (take_lt l N)) (seq_bd _ (drop_lt l N))
theorem parts2_len (l : List (Int × Int)) (N : Nat) (h : l.length ≤ 12) : (parts2 l N).length ≤ 4000 := by
  have := cut_len l N
  unfold parts2
  rw [List.length_append]; omega
end Go.Proofs.Ytpcigmjbjcgdbaa
